/-
  What may be ranged over: rounds that are told what they are handed, rounds that may leave; a drawn region within a round.
-/
import Derived.RangeFuncNested
import Derived.RangeFuncBox
import Derived.RangeFuncLeaves
import Derived.WalkKit
import Derived.Test.YtlmpicfhbpnpbaaCur
import Derived.OrdersIn
import Derived.Deep.RegionHeld3
import Derived.TacticsIn
namespace Go.Proofs.Ytlmpicfhbpnpbaa
open Go.RowKit

variable {F : Fence} {n : Nat} {P : Program}

/-- What may be ranged over hands on x's, of each of which 'R x' holds where it is handed on, all of them, such that 'S' holds of them. W0: where the last round has ended, or the loop begins; behind it what may be ranged over has turned nothing that lay there. 'Kp m': what a round keeps, m being how many blocks lay in W0. -/
def Hands {α : Type} (F : Fence) (n : Nat) (P : Program) (gf : Nat) (lb : Array Value) (encs : α → Array Value) (R : α → World → Prop) (Kp : Nat → World → World → Prop) (S : List α → Prop) (N : Nat) (w : World) : Prop :=
  ∀ (l : Nat) (J : List α → World → Prop) (W : World), Below w.heap.size w W →
    (∀ pre x W0 W1, J pre W0 → Below W0.heap.size W0 W1 → R x W1 → pre.length < N → YieldAt F (n - 1) P l (encs x) W1 fun e W' => e = .returned (.bool true) ∧ J (pre ++ [x]) W' ∧ Kp W0.heap.size W1 W') →
    J [] W → CallsIn F n P gf (#[.func (.yield l) #[] #[]] ++ lb) W fun e W' => (∃ v, e = .returned v) ∧ ∃ xs W0, S xs ∧ J xs W0 ∧ Below W0.heap.size W0 W'

/-- The record of a loop in a state. -/
def recOf (fn : FuncId) (tmps : Array Value) (ps : Array Tmp) (assign body : Code) (D : Nat) (s : LoopState) : Obj :=
  .loop { state := s, pending := none, fn := fn, tmps := tmps, params := ps, assign := assign, body := body, defers := D }

/-- One round: out of the walks of what takes what is handed on, and of the loop's body. -/
theorem yield_round {l D : Nat} {fn : FuncId} {tmps args : Array Value} {ps : Array Tmp} {assign body : Code} {W : World} {E : Ending → World → Prop} (hfn : F.fn fn) (hps : args.size = ps.size)
    (hl : W.heap[l]? = some (recOf fn tmps ps assign body D .ready))
    (h : assign.wpIn (F.inRound l) n P (Exit.then (fun a1 W1 => W1.heap[l]? = some (recOf fn tmps ps assign body D .ready) ∧
        body.wpIn (F.inRound l) n P (Exit.then (fun _ W3 => W3.heap[l]? = some (recOf fn tmps ps assign body D .busy) ∧ E (.returned (.bool true)) (W3.putObj l (recOf fn tmps ps assign body D .ready))) (fun _ _ _ => False)) a1 (W1.putObj l (recOf fn tmps ps assign body D .busy))) (fun _ _ _ => False))
      { tmps := (ps.zip args).foldl (fun t (p, v) => t.setIfInBounds p v) tmps, defers := [] } W) :
    YieldAt F n P l args W E := by
  refine ⟨fn, _, assign, body, run_yield hl hps, roundIn_of_wpIn hfn (wpIn_mono h ?_)⟩
  rintro e a1 W1 hp
  cases e with
  | normal =>
    refine ⟨_, run_beginRound hp.1 rfl, wpIn_mono hp.2 ?_⟩
    rintro e a3 W3 hq
    cases e with
    | normal => exact ⟨_, _, run_endRound none hq.1, hq.2⟩
    | _ => exact (show False from hq).elim
  | _ => exact (show False from hp).elim

/-- What minds cells alone is kept where what lay in memory is. -/
theorem ownFrom_below' {β : Type} {B : Nat} {I : β → World → Prop} (h : OwnFrom B I) {s : β} {w w' : World} (hs : I s w) (hb : Below w.heap.size w w') : I s w' :=
  h s w w' none hs ⟨hb.os, hb.tape, hb.output, hb.size, fun k hk _ => hb.block k hk⟩ (fun r e => by cases e)

/-- The loop: an invariant on the caller's own cells, one walk of its body. -/
theorem range_told {α : Type} {g : Operand} {ps : Array Tmp} {assign body : Code} {Q : Exit → Act → World → Prop} {a : Act} {w : World}
    (hro : F.round = none) (h1 : 1 ≤ n) {gf : Nat} {lb : Array Value} (hg : a.eval g = .func (.func gf) #[] lb) (hFg : F.fn gf) (eg : ∀ args w, (callFunc gf args).run P w = .ok (.enter gf args) w)
    {encs : α → Array Value} {R : α → World → Prop} {Kp : Nat → World → World → Prop} {S : List α → Prop} {N : Nat} (hseq : Hands F (n - 1) P gf lb encs R Kp S N w) (hps : ∀ x, (encs x).size = ps.size)
    (hKt : ∀ {m : Nat} {A B C : World}, Kp m A B → Kp m B C → Kp m A C) (hKb : ∀ (m : Nat) (W : World) (l : Nat) (o o' : Obj), w.heap.size ≤ l → l < m → W.heap[l]? = some o → o.isCells = false → Kp m W (W.putObj l o'))
    (I : List α → World → Prop) (hI : OwnFrom w.heap.size I) (h0 : I [] w) (Ax : Nat → List α → α → Act → World → Prop) (hAx : ∀ m pre x a', OwnFrom w.heap.size (fun (_ : Unit) W => Ax m pre x a' W))
    (htake : ∀ (l : Nat) (pre : List α) (x : α) (W0 W : World) (K : Act → World → Prop), I pre W0 → Below W0.heap.size W0 W → R x W → pre.length < N → (∀ a' W', KeepsFrom w.heap.size W W' → Kp W0.heap.size W W' → Ax W0.heap.size pre x a' W' → K a' W') →
      assign.wpIn (F.inRound l) (n - 1 - 1) P (Exit.then K (fun _ _ _ => False)) { tmps := (ps.zip (encs x)).foldl (fun t (p, v) => t.setIfInBounds p v) a.tmps, defers := [] } W)
    (hbody : ∀ (l m : Nat) (pre : List α) (x : α) (a' : Act) (W : World), Ax m pre x a' W → pre.length < N →
      body.wpIn (F.inRound l) (n - 1 - 1) P (Exit.then (fun _ W' => KeepsFrom w.heap.size W W' ∧ Kp m W W' ∧ I (pre ++ [x]) W') (fun _ _ _ => False)) a' W)
    (hdone : ∀ (D : Nat) (xs : List α) (W : World), w.heap.size ≤ D → S xs → I xs W → W.heap[D]? = some (.deferred (some [])) → Q .normal { a with defers := { target := .collected D, args := #[] } :: a.defers } W) :
    (Code.rangeFunc g ps assign body).wpIn F n P Q a w := by
  refine wpIn_rangeFunc fun fn hfn => ?_
  rw [hro]
  obtain ⟨D, hD⟩ : ∃ D, w.heap.size = D := ⟨_, rfl⟩
  obtain ⟨rec, hrec⟩ : ∃ rec, recOf fn a.tmps ps assign body D = rec := ⟨_, rfl⟩
  have hnc : ∀ s, (rec s).isCells = false := fun s => by rw [← hrec]; rfl
  obtain ⟨W0, hW0⟩ : ∃ W0, w.alloc (.deferred (some [])) = W0 := ⟨_, rfl⟩
  have hs0 : W0.heap.size = D + 1 := by rw [← hW0, World.size_alloc, hD]
  have hd0 : W0.heap[D]? = some (.deferred (some [])) := by rw [← hW0, ← hD]; exact World.alloc_heap_new w _
  have hi0 : I [] W0 := by rw [← hW0]; exact hI.alloc _ h0
  have hb0 : Below w.heap.size w W0 := by rw [← hW0]; exact (Below.refl _ w).alloc (Nat.le_refl _) _
  have hent := run_enterLoop_outer (P := P) (w := w) fn a.tmps ps assign body
  rw [hW0, hD] at hent
  change _ = Result.ok _ (W0.alloc (recOf fn a.tmps ps assign body D .ready)) at hent
  rw [hrec] at hent
  have hl1 : (W0.alloc (rec .ready)).heap[D + 1]? = some (rec .ready) := by rw [← hs0]; exact World.alloc_heap_new W0 _
  have hd1 : (W0.alloc (rec .ready)).heap[D]? = some (.deferred (some [])) := (Below.heap_alloc _ _ _ (by omega)).trans hd0
  have hi1 : I [] (W0.alloc (rec .ready)) := hI.alloc _ hi0
  have hb1 : Below w.heap.size w (W0.alloc (rec .ready)) := hb0.alloc (by omega) _
  generalize W0.alloc (rec .ready) = W1 at hent hl1 hd1 hi1 hb1
  refine ⟨D + 1, _, W1, { target := .fn (.func gf) lb, args := #[.func (.yield (D + 1)) #[] #[]] }, W1, gf, #[.func (.yield (D + 1)) #[] #[]] ++ lb, W1, hent, ?_, ?_, ?_, fun _ => h1, ?_⟩
  · simp only [resolve, hg]
    simp [go_sem]
  · intro f' hf'
    simp [Target.leads] at hf'
    subst hf'
    exact hFg
  · simp [invoke, go_sem, eg]
  · refine (hseq (D + 1) (fun pre W => I pre W ∧ W.heap[D + 1]? = some (rec .ready) ∧ W.heap[D]? = some (.deferred (some []))) W1 hb1 ?_ ⟨hi1, hl1, hd1⟩).mono ?_
    · -- a round
      rintro pre x V W ⟨hi, hl, hd⟩ hV hR hlen
      have hlV := (Array.getElem?_eq_some_iff.1 hl).1
      replace hl := (hV.block _ hlV).trans hl
      replace hd := (hV.block _ (by omega)).trans hd
      rw [← hrec] at hl
      refine yield_round hfn (hps x) hl ?_
      rw [hrec] at hl ⊢
      refine htake _ pre x V W _ hi hV hR hlen fun a' W' hkf hkp hax => ?_
      have hl' := hkf.same _ _ (by omega) hl (hnc _)
      have hd' := hkf.same _ _ (by omega) hd rfl
      refine ⟨hl', ?_⟩
      have hax2 := (hAx _ pre x a').putObj (s := ()) (rec .busy) hax (by omega) hl' (hnc _)
      have hkp2 := hKb V.heap.size W' (D + 1) _ (rec .busy) (by omega) hlV hl' (hnc _)
      have hl2 : (W'.putObj (D + 1) (rec .busy)).heap[D + 1]? = some (rec .busy) := World.putObj_heap_same (Array.getElem?_eq_some_iff.1 hl').1
      have hd2 : (W'.putObj (D + 1) (rec .busy)).heap[D]? = some (.deferred (some [])) := (World.putObj_heap_other (by omega)).trans hd'
      refine wpIn_mono (hbody (D + 1) _ pre x a' _ hax2 hlen) ?_
      rintro e a3 W3 hp
      cases e with
      | normal =>
        obtain ⟨hkf3, hkp3, hi3⟩ := hp
        have hl3 := hkf3.same _ _ (by omega) hl2 (hnc _)
        have hd3 := hkf3.same _ _ (by omega) hd2 rfl
        refine ⟨hl3, rfl, ⟨hI.putObj _ hi3 (by omega) hl3 (hnc _), World.putObj_heap_same (Array.getElem?_eq_some_iff.1 hl3).1, (World.putObj_heap_other (by omega)).trans hd3⟩, ?_⟩
        exact hKt hkp (hKt (hKt hkp2 hkp3) (hKb _ W3 (D + 1) _ _ (by omega) hlV hl3 (hnc _)))
      | _ => exact (show False from hp).elim
    · -- behind it
      rintro e W2 ⟨⟨v, rfl⟩, xs, V, hS, ⟨hi, hl, hd⟩, hV⟩
      have hlV := (Array.getElem?_eq_some_iff.1 hl).1
      replace hl := (hV.block _ hlV).trans hl
      replace hd := (hV.block _ (by omega)).trans hd
      have hi' := hI.putObj (.loop { state := .exhausted, pending := none, fn := fn, tmps := a.tmps, params := ps, assign := assign, body := body, defers := D }) (ownFrom_below' hI hi hV) (by omega) hl (hnc _)
      rw [← hrec] at hl
      exact ⟨none, _, run_endLoop hl (by simp), hdone D xs _ (by omega) hS hi' ((World.putObj_heap_other (by omega)).trans hd)⟩
#print axioms range_told
end Go.Proofs.Ytlmpicfhbpnpbaa

namespace Go.Proofs.Ytlmpicfhbpnpbaa
open Go.RowKit

/-- What lay in A lies in B, but what is no cells and lies at or beyond m. -/
structure Calm (m : Nat) (A B : World) : Prop where
  os : B.os = A.os
  tape : B.tape = A.tape
  output : B.output = A.output
  size : A.heap.size ≤ B.heap.size
  low : ∀ k, k < m → k < A.heap.size → B.heap[k]? = A.heap[k]?
  cells : ∀ (k : Nat) (o : Obj), A.heap[k]? = some o → o.isCells = true → B.heap[k]? = some o
theorem Calm.refl (m : Nat) (A : World) : Calm m A A := ⟨rfl, rfl, rfl, Nat.le_refl _, fun _ _ _ => rfl, fun _ _ h _ => h⟩
theorem Calm.trans {m : Nat} {A B C : World} (h : Calm m A B) (k : Calm m B C) : Calm m A C :=
  ⟨k.os.trans h.os, k.tape.trans h.tape, k.output.trans h.output, Nat.le_trans h.size k.size, fun i h1 h2 => (k.low i h1 (Nat.lt_of_lt_of_le h2 h.size)).trans (h.low i h1 h2), fun i o h1 h2 => k.cells i o (h.cells i o h1 h2) h2⟩
theorem Calm.mono {m m' : Nat} {A B : World} (h : Calm m' A B) (hm : m ≤ m') : Calm m A B := ⟨h.os, h.tape, h.output, h.size, fun k h1 h2 => h.low k (by omega) h2, h.cells⟩
theorem Calm.of_below {m : Nat} {A B : World} (h : Below A.heap.size A B) : Calm m A B :=
  ⟨h.os, h.tape, h.output, h.size, fun k _ h2 => h.block k h2, fun k _ h1 _ => (h.block k (Array.getElem?_eq_some_iff.1 h1).1).trans h1⟩
theorem Calm.alloc (m : Nat) (A : World) (o : Obj) : Calm m A (A.alloc o) := Calm.of_below ((Below.refl _ _).alloc (Nat.le_refl _) _)
theorem Calm.putObj {m l : Nat} {A : World} {o : Obj} (o' : Obj) (hl : A.heap[l]? = some o) (ho : o.isCells = false) (hm : m ≤ l) : Calm m A (A.putObj l o') := by
  have hg := grownBy_putObj' A l o'
  refine ⟨hg.os, hg.tape, hg.output, hg.size, fun k h1 h2 => World.putObj_heap_other (by omega), fun k c h1 h2 => (World.putObj_heap_other (fun e => ?_)).trans h1⟩
  subst e
  rw [hl] at h1
  injection h1 with h1
  rw [← h1, ho] at h2
  cases h2
/-- What is said of a world abides what leaves it calm. -/
def Abides {β : Type} (m : Nat) (J : β → World → Prop) : Prop := ∀ s A B, J s A → Calm m A B → J s B
theorem Abides.mono {β : Type} {m m' : Nat} {J : β → World → Prop} (h : Abides m J) (hm : m ≤ m') : Abides m' J := fun s A B hs hc => h s A B hs (hc.mono hm)
theorem Abides.and {β : Type} {m : Nat} {I J : β → World → Prop} (h : Abides m I) (k : Abides m J) : Abides m (fun s W => I s W ∧ J s W) := fun s A B hs hc => ⟨h s A B hs.1 hc, k s A B hs.2 hc⟩
theorem abides_below {β : Type} {m B : Nat} {w0 : World} (hB : B ≤ m) (h0 : B ≤ w0.heap.size) : Abides m (fun (_ : β) W => Below B w0 W) := fun _ A X hs hc =>
  ⟨hc.os.trans hs.os, hc.tape.trans hs.tape, hc.output.trans hs.output, Nat.le_trans hs.size hc.size, fun k hk => (hc.low k (by omega) (by have := hs.size; omega)).trans (hs.block k hk)⟩
theorem Calm.held {m b : Nat} {A B : World} {t : TypeId} {c : Array Value} (h : Calm m A B) (hb : Held A b t c) : Held B b t c := h.cells b _ hb rfl
theorem Calm.boxed {m b : Nat} {A B : World} {t : TypeId} {v : Value} (h : Calm m A B) (hb : Boxed A b t v) : Boxed B b t v := h.cells b _ hb rfl

variable {F : Fence} {n : Nat} {P : Program}

/-- What may be ranged over hands on x's, of each of which R holds; it goes on till a round says no more. Kp m: what a round keeps, m being how many blocks there are where it begins; lv: that a round may leave the loop. -/
def Gives {α : Type} (F : Fence) (n : Nat) (P : Program) (gf : Nat) (lb : Array Value) (encs : α → Array Value) (R : List α → α → Prop) (Kp : Nat → World → World → Prop) (S Sp : List α → Prop) (lv : Prop) (w : World) : Prop :=
  ∀ (l : Nat) (J Jx : List α → World → Prop) (W : World), Below w.heap.size w W → Abides W.heap.size J → Abides W.heap.size Jx →
    (∀ pre x W1, J pre W1 → R pre x → W.heap.size ≤ W1.heap.size → YieldAt F (n - 1) P l (encs x) W1 fun e W' => (e = .returned (.bool true) ∧ J (pre ++ [x]) W' ∧ Kp W.heap.size W1 W') ∨ (lv ∧ e = .returned (.bool false) ∧ Jx (pre ++ [x]) W')) →
    J [] W → CallsIn F n P gf (#[.func (.yield l) #[] #[]] ++ lb) W fun e W' => (∃ v, e = .returned v) ∧ ((∃ xs, S xs ∧ J xs W') ∨ (∃ pre, Sp pre ∧ Jx pre W'))

/-- The record of a loop: its state, what is to be done behind it. -/
def recJ (fn : FuncId) (tmps : Array Value) (ps : Array Tmp) (assign body : Code) (D : Nat) (s : LoopState) (j : Option Code) : Obj :=
  .loop { state := s, pending := j, fn := fn, tmps := tmps, params := ps, assign := assign, body := body, defers := D }

/-- How a round's body ends: it goes on, or it returns. -/
def RoundEnds (G : World → Prop) (X : World → Prop) : Exit → Act → World → Prop
  | .normal, _, W' => G W'
  | .ret, _, W' => X W'
  | _, _, _ => False

/-- One round. -/
theorem yield_round2 {l D : Nat} {fn : FuncId} {tmps args : Array Value} {ps : Array Tmp} {assign body : Code} {W : World} {E : Ending → World → Prop} (hfn : F.fn fn) (hps : args.size = ps.size)
    (hl : W.heap[l]? = some (recJ fn tmps ps assign body D .ready none))
    (h : assign.wpIn (F.inRound l) n P (Exit.then (fun a1 W1 => W1.heap[l]? = some (recJ fn tmps ps assign body D .ready none) ∧
        body.wpIn (F.inRound l) n P (RoundEnds (fun W3 => W3.heap[l]? = some (recJ fn tmps ps assign body D .busy none) ∧ E (.returned (.bool true)) (W3.putObj l (recJ fn tmps ps assign body D .ready none)))
          (fun W3 => W3.heap[l]? = some (recJ fn tmps ps assign body D .busy none) ∧ E (.returned (.bool false)) (W3.putObj l (recJ fn tmps ps assign body D .done (some .ret))))) a1 (W1.putObj l (recJ fn tmps ps assign body D .busy none))) (fun _ _ _ => False))
      { tmps := (ps.zip args).foldl (fun t (p, v) => t.setIfInBounds p v) tmps, defers := [] } W) :
    YieldAt F n P l args W E := by
  refine ⟨fn, _, assign, body, run_yield hl hps, roundIn_of_wpIn hfn (wpIn_mono h ?_)⟩
  rintro e a1 W1 hp
  cases e with
  | normal =>
    refine ⟨_, run_beginRound hp.1 rfl, wpIn_mono hp.2 ?_⟩
    rintro e a3 W3 hq
    cases e with
    | normal => exact ⟨_, _, run_endRound none hq.1, hq.2⟩
    | ret => exact ⟨_, _, run_endRound (some .ret) hq.1, hq.2⟩
    | _ => exact (show False from hq).elim
  | _ => exact (show False from hp).elim

/-- The loop. -/
theorem range_gives {α : Type} {g : Operand} {ps : Array Tmp} {assign body : Code} {Q : Exit → Act → World → Prop} {a : Act} {w : World}
    (hro : F.round = none) (h1 : 1 ≤ n) {gf : Nat} {lb : Array Value} (hg : a.eval g = .func (.func gf) #[] lb) (hFg : F.fn gf) (eg : ∀ args w, (callFunc gf args).run P w = .ok (.enter gf args) w)
    {encs : α → Array Value} {R : List α → α → Prop} {Kp : Nat → World → World → Prop} {S Sp : List α → Prop} {lv : Prop} (hseq : Gives F (n - 1) P gf lb encs R Kp S Sp lv w) (hps : ∀ x, (encs x).size = ps.size)
    (hKt : ∀ {m : Nat} {A B C : World}, Kp m A B → Kp m B C → Kp m A C) (hKb : ∀ (m : Nat) (W : World) (l : Nat) (o o' : Obj), w.heap.size ≤ l → l < m → W.heap[l]? = some o → o.isCells = false → Kp m W (W.putObj l o'))
    (I Ix : List α → World → Prop) (hI : Abides w.heap.size I) (hIx : Abides w.heap.size Ix) (h0 : I [] w) (Ax : List α → α → Act → World → Prop) (hAx : ∀ pre x a', Abides w.heap.size (fun (_ : Unit) W => Ax pre x a' W))
    (htake : ∀ (l m : Nat) (pre : List α) (x : α) (W : World) (K : Act → World → Prop), w.heap.size < m → m ≤ W.heap.size → I pre W → R pre x → (∀ a' W', KeepsFrom w.heap.size W W' → Kp m W W' → Ax pre x a' W' → K a' W') →
      assign.wpIn (F.inRound l) (n - 1 - 1) P (Exit.then K (fun _ _ _ => False)) { tmps := (ps.zip (encs x)).foldl (fun t (p, v) => t.setIfInBounds p v) a.tmps, defers := [] } W)
    (hbody : ∀ (l m : Nat) (pre : List α) (x : α) (a' : Act) (W : World), w.heap.size < m → m ≤ W.heap.size → Ax pre x a' W →
      body.wpIn (F.inRound l) (n - 1 - 1) P (RoundEnds (fun W' => KeepsFrom w.heap.size W W' ∧ Kp m W W' ∧ I (pre ++ [x]) W') (fun W' => lv ∧ KeepsFrom w.heap.size W W' ∧ Ix (pre ++ [x]) W')) a' W)
    (hdone : ∀ (D : Nat) (xs : List α) (W : World), w.heap.size ≤ D → S xs → I xs W → W.heap[D]? = some (.deferred (some [])) → Q .normal { a with defers := { target := .collected D, args := #[] } :: a.defers } W)
    (hstop : ∀ (D : Nat) (pre : List α) (W : World), w.heap.size ≤ D → Sp pre → Ix pre W → W.heap[D]? = some (.deferred (some [])) → Code.ret.wpIn F n P Q { a with defers := { target := .collected D, args := #[] } :: a.defers } W) :
    (Code.rangeFunc g ps assign body).wpIn F n P Q a w := by
  refine wpIn_rangeFunc fun fn hfn => ?_
  rw [hro]
  obtain ⟨D, hD⟩ : ∃ D, w.heap.size = D := ⟨_, rfl⟩
  obtain ⟨rec, hrec⟩ : ∃ rec, recJ fn a.tmps ps assign body D = rec := ⟨_, rfl⟩
  have hnc : ∀ s j, (rec s j).isCells = false := fun s j => by rw [← hrec]; rfl
  obtain ⟨W0, hW0⟩ : ∃ W0, w.alloc (.deferred (some [])) = W0 := ⟨_, rfl⟩
  have hs0 : W0.heap.size = D + 1 := by rw [← hW0, World.size_alloc, hD]
  have hd0 : W0.heap[D]? = some (.deferred (some [])) := by rw [← hW0, ← hD]; exact World.alloc_heap_new w _
  have hi0 : I [] W0 := by rw [← hW0]; exact hI _ _ _ h0 (Calm.alloc _ _ _)
  have hb0 : Below w.heap.size w W0 := by rw [← hW0]; exact (Below.refl _ w).alloc (Nat.le_refl _) _
  have hent := run_enterLoop_outer (P := P) (w := w) fn a.tmps ps assign body
  rw [hW0, hD] at hent
  change _ = Result.ok _ (W0.alloc (recJ fn a.tmps ps assign body D .ready none)) at hent
  rw [hrec] at hent
  have hl1 : (W0.alloc (rec .ready none)).heap[D + 1]? = some (rec .ready none) := by rw [← hs0]; exact World.alloc_heap_new W0 _
  have hd1 : (W0.alloc (rec .ready none)).heap[D]? = some (.deferred (some [])) := (Below.heap_alloc _ _ _ (by omega)).trans hd0
  have hi1 : I [] (W0.alloc (rec .ready none)) := hI _ _ _ hi0 (Calm.alloc _ _ _)
  have hb1 : Below w.heap.size w (W0.alloc (rec .ready none)) := hb0.alloc (by omega) _
  have hs1 : (W0.alloc (rec .ready none)).heap.size = D + 2 := by rw [World.size_alloc, hs0]
  generalize W0.alloc (rec .ready none) = W1 at hent hl1 hd1 hi1 hb1 hs1
  refine ⟨D + 1, _, W1, { target := .fn (.func gf) lb, args := #[.func (.yield (D + 1)) #[] #[]] }, W1, gf, #[.func (.yield (D + 1)) #[] #[]] ++ lb, W1, hent, ?_, ?_, ?_, fun _ => h1, ?_⟩
  · simp only [resolve, hg]
    simp [go_sem]
  · intro f' hf'
    simp [Target.leads] at hf'
    subst hf'
    exact hFg
  · simp [invoke, go_sem, eg]
  · refine (hseq (D + 1) (fun pre W => I pre W ∧ W.heap[D + 1]? = some (rec .ready none) ∧ W.heap[D]? = some (.deferred (some [])))
      (fun pre W => Ix pre W ∧ W.heap[D + 1]? = some (rec .done (some .ret)) ∧ W.heap[D]? = some (.deferred (some []))) W1 hb1 ?_ ?_ ?_ ⟨hi1, hl1, hd1⟩).mono ?_
    · rintro pre A B ⟨h1, h2, h3⟩ hc
      have hlt := (Array.getElem?_eq_some_iff.1 h2).1
      exact ⟨hI _ _ _ h1 (hc.mono (by omega)), (hc.low _ (by omega) hlt).trans h2, (hc.low _ (by omega) (by omega)).trans h3⟩
    · rintro pre A B ⟨h1, h2, h3⟩ hc
      have hlt := (Array.getElem?_eq_some_iff.1 h2).1
      exact ⟨hIx _ _ _ h1 (hc.mono (by omega)), (hc.low _ (by omega) hlt).trans h2, (hc.low _ (by omega) (by omega)).trans h3⟩
    · -- a round
      rintro pre x W ⟨hi, hl, hd⟩ hR hsz
      have hlV := (Array.getElem?_eq_some_iff.1 hl).1
      rw [← hrec] at hl
      refine yield_round2 hfn (hps x) hl ?_
      rw [hrec] at hl ⊢
      refine htake _ W1.heap.size pre x W _ (by omega) hsz hi hR fun a' W' hkf hkp hax => ?_
      have hl' := hkf.same _ _ (by omega) hl (hnc _ _)
      have hd' := hkf.same _ _ (by omega) hd rfl
      refine ⟨hl', ?_⟩
      have hax2 := (hAx pre x a') () _ _ hax (Calm.putObj (rec .busy none) hl' (hnc _ _) (by omega))
      have hkp2 := hKb W1.heap.size W' (D + 1) _ (rec .busy none) (by omega) (by omega) hl' (hnc _ _)
      have hl2 : (W'.putObj (D + 1) (rec .busy none)).heap[D + 1]? = some (rec .busy none) := World.putObj_heap_same (Array.getElem?_eq_some_iff.1 hl').1
      have hd2 : (W'.putObj (D + 1) (rec .busy none)).heap[D]? = some (.deferred (some [])) := (World.putObj_heap_other (by omega)).trans hd'
      have hz2 : (W'.putObj (D + 1) (rec .busy none)).heap.size = W'.heap.size := by simp [World.putObj]
      refine wpIn_mono (hbody (D + 1) W1.heap.size pre x a' _ (by omega) (by have := hkf.size; omega) hax2) ?_
      rintro e a3 W3 hp
      cases e with
      | normal =>
        obtain ⟨hkf3, hkp3, hi3⟩ := hp
        have hl3 := hkf3.same _ _ (by omega) hl2 (hnc _ _)
        have hd3 := hkf3.same _ _ (by omega) hd2 rfl
        exact ⟨hl3, .inl ⟨rfl, ⟨hI _ _ _ hi3 (Calm.putObj _ hl3 (hnc _ _) (by omega)), World.putObj_heap_same (Array.getElem?_eq_some_iff.1 hl3).1, (World.putObj_heap_other (by omega)).trans hd3⟩,
          hKt hkp (hKt (hKt hkp2 hkp3) (hKb _ W3 (D + 1) _ _ (by omega) (by omega) hl3 (hnc _ _)))⟩⟩
      | ret =>
        obtain ⟨hlv, hkf3, hi3⟩ := hp
        have hl3 := hkf3.same _ _ (by omega) hl2 (hnc _ _)
        have hd3 := hkf3.same _ _ (by omega) hd2 rfl
        exact ⟨hl3, .inr ⟨hlv, rfl, hIx _ _ _ hi3 (Calm.putObj _ hl3 (hnc _ _) (by omega)), World.putObj_heap_same (Array.getElem?_eq_some_iff.1 hl3).1, (World.putObj_heap_other (by omega)).trans hd3⟩⟩
      | _ => exact (show False from hp).elim
    · -- behind it
      rintro e W2 ⟨⟨v, rfl⟩, ⟨xs, hS, hi, hl, hd⟩ | ⟨pre, hS, hi, hl, hd⟩⟩
      · have hi' := hI _ _ _ hi (Calm.putObj (recJ fn a.tmps ps assign body D .exhausted none) hl (hnc _ _) (by omega))
        rw [← hrec] at hl
        exact ⟨none, _, run_endLoop hl (by simp), hdone D xs _ (by omega) hS hi' ((World.putObj_heap_other (by omega)).trans hd)⟩
      · have hi' := hIx _ _ _ hi (Calm.putObj (recJ fn a.tmps ps assign body D .exhausted (some .ret)) hl (hnc _ _) (by omega))
        rw [← hrec] at hl
        exact ⟨some .ret, _, run_endLoop hl (by simp), hstop D pre _ (by omega) hS hi' ((World.putObj_heap_other (by omega)).trans hd)⟩
/-- At the wide fence a round's depth is of no account, nor in which round it is begun. -/
theorem YieldAt.wide {k m l l' : Nat} {args : Array Value} {W : World} {E : Ending → World → Prop} (h : YieldAt Fence.wide k P l args W E) : YieldAt (Fence.wide.inRound l') m P l args W E := by
  obtain ⟨fn, tmps, assign, body, h1, h2, h3⟩ := h
  exact ⟨fn, tmps, assign, body, h1, h2, fun c cs _ => h3 c cs (room_wide _)⟩
theorem YieldAt.all {k l : Nat} {args : Array Value} {W : World} {E : Ending → World → Prop} (h : YieldAt Fence.wide k P l args W E) (l' : Nat) :
    ∃ fn tmps assign body, (Instr.yield l args).run P W = .ok (.round l fn tmps assign body) W ∧ ∀ m, RoundIn (Fence.wide.inRound l') m P l fn tmps assign body W E := by
  obtain ⟨fn, tmps, assign, body, h1, h2, h3⟩ := h
  exact ⟨fn, tmps, assign, body, h1, fun m => ⟨h2, fun c cs _ => h3 c cs (room_wide _)⟩⟩
#print axioms range_gives
#print axioms YieldAt.wide
end Go.Proofs.Ytlmpicfhbpnpbaa

namespace Go.Proofs.Ytlmpicfhbpnpbaa
open Go.RowKit

variable {P : Program} {ops : Array Oper} {Q : Exit → Act → World → Prop} {md : Region.Mode} {n l : Nat}

/-- No operation is a deferred call. -/
def noDefer (ops : Array Oper) : Bool := ops.all fun o => match o.op with | .defer _ => false | _ => true
theorem noDefer_spec {ops : Array Oper} (h : noDefer ops = true) {i : Nat} {o : Oper} (ho : ops[i]? = some o) : ∀ c, o.op ≠ .defer c := by
  intro c e
  have := Array.all_eq_true.1 h i (Array.getElem?_eq_some_iff.1 ho).1
  rw [(Array.getElem?_eq_some_iff.1 ho).2, e] at this
  cases this
theorem wpOp_round (hd : noDefer ops = true) (hl : ¬ LetsOut Q) {i : Nat} {a : Act} {w : World} {K : Act → World → Prop} (h : wpOp P ops Q i K a w) : wpOpIn (Fence.wide.inRound l) n P ops Q i K a w := by
  unfold wpOp at h
  unfold wpOpIn
  cases ho : ops[i]? with
  | none => rw [ho] at h; exact h
  | some o =>
    rw [ho] at h
    dsimp only at h ⊢
    by_cases hw : Region.wanted o (yielded ops a.tmps) = true
    · rw [if_pos hw] at h ⊢
      rcases h with h | ⟨_, h⟩
      · refine ⟨fun _ _ => trivial, ?_⟩
        rw [Oper.semAt_eq _ _ _ (noDefer_spec hd ho)]
        unfold Oper.wp at h
        generalize (execOp a.eval o).run P w = r at h ⊢
        cases r with
        | ok x w' =>
          cases x <;> simp only [Oper.upon] at h <;> simp only [Oper.uponIn] <;> first
            | exact h
            | exact h.elim
            | exact ⟨fun h => (by cases h), (show CallsIn Fence.wide _ _ _ _ _ _ from callsIn_wide.2 h)⟩
            | (refine ⟨fun h => (by cases h), fun c cs _ => ?_⟩; obtain ⟨v, w2, r, s⟩ := h c cs; exact ⟨v, w2, r, stepsIn_wide.2 s⟩)
        | halt x w' => cases x <;> simp only [Oper.upon] at h <;> simp only [Oper.uponIn] <;> first | exact h | exact h.elim
      · exact absurd h hl
    · rw [if_neg hw] at h ⊢
      exact ⟨fun _ _ => trivial, h⟩
theorem wpAny_round (hd : noDefer ops = true) (hl : ¬ LetsOut Q) : ∀ (fuel : Nat) (listed : Array Bool) (a : Act) (w : World), wpAny P md ops Q fuel listed a w → wpAnyIn (Fence.wide.inRound l) n P md ops Q fuel listed a w
  | 0, _, _, _, h => h
  | fuel + 1, _, _, _, h => ⟨h.1, fun i hi => wpOpIn_mono (fun a' w' h' => wpAny_round hd hl fuel _ a' w' h') (wpOp_round hd hl (h.2 i hi))⟩
/-- The region, by a condition on its worlds. -/
theorem wpIn_region_round {id : Nat} {a : Act} {w : World} {S : World → Prop} (hm : P.follows .mixedOrders = true) (hd : noDefer ops = true) (hl : ¬ LetsOut Q) (hS : S w.drew)
    (h : S w.drew → wpAnyH P .any ops Q S ops.size (Array.replicate ops.size false) a w.drew) : (Code.region id ops true).wpIn (Fence.wide.inRound l) n P Q a w :=
  wpIn_region_any hm (wpAny_round hd hl _ _ _ _ (wpAny_of_held _ _ _ _ (h hS)))
#print axioms wpIn_region_round
end Go.Proofs.Ytlmpicfhbpnpbaa
