/-
  A trace's blocks, in plain lists: each fits, and has no room for the first point of the one behind. No program here.
-/
import Derived.Test.YtlmpicfhbpnpbaaPlainCut
import Derived.Test.YtlmpicfhbpnpbaaPlainUnblock
namespace Go.Proofs.Ytlmpicfhbpnpbaa

/-- A list in parts of so many each. -/
def cutsOf {α : Type} : List Nat → List α → List (List α)
  | [], _ => []
  | k :: ks, l => l.take k :: cutsOf ks (l.drop k)
theorem cutsOf_length {α : Type} : ∀ (ks : List Nat) (l : List α), (cutsOf ks l).length = ks.length
  | [], _ => rfl
  | k :: ks, l => by rw [cutsOf, List.length_cons, List.length_cons, cutsOf_length ks]
theorem cutsOf_map {α β : Type} (f : α → β) : ∀ (ks : List Nat) (l : List α), (cutsOf ks l).map (List.map f) = cutsOf ks (l.map f)
  | [], _ => rfl
  | k :: ks, l => by rw [cutsOf, cutsOf, List.map_cons, cutsOf_map f ks, List.map_take, List.map_drop]

/-- A block that has a payload. -/
def BlkOk (sig : List Pr) (most : Int) (q : List Pm) : Prop := 1 ≤ q.length ∧ q.length ≤ 1024 ∧ (q.length : Int) ≤ most ∧ (putB sig q).2 = 0
/-- It has no room for the first point of the one behind. -/
def NoRoom (sig : List Pr) (most : Int) (q r : List Pm) : Prop := ∃ d, r[0]? = some d ∧ (q.length < 1024 → (q.length : Int) < most → (putB sig (q ++ [d])).2 = 6)
def GoodC (sig : List Pr) (most : Int) (L : List (List Pm)) : Prop := ∀ (i : Nat) (q : List Pm), L[i]? = some q → BlkOk sig most q ∧ ∀ r : List Pm, L[i + 1]? = some r → NoRoom sig most q r

theorem CutC.inv {sig : List Pr} {most : Int} {l : List Pm} {ks : List Nat} {k : Nat} (h : CutC sig most l (k :: ks)) : COk sig l most ∧ 0 < l.length ∧ firstC sig l most = k ∧ CutC sig most (l.drop k) ks := by
  cases h with
  | cons h1 h2 h3 h4 => exact ⟨h1, h2, h3, h4⟩
theorem CutC.good {sig : List Pr} {most : Int} : ∀ {l : List Pm} {ks : List Nat}, CutC sig most l ks → GoodC sig most (cutsOf ks l) := by
  intro l ks h
  induction h with
  | nil => intro i q hq; simp [cutsOf] at hq
  | @cons l ks k hc hl hk t ih =>
    have hf := hc.first hl
    rw [hk] at hf
    intro i q hq
    rw [cutsOf] at hq
    rw [cutsOf]
    cases i with
    | zero =>
      simp only [List.getElem?_cons_zero, Option.some.injEq] at hq
      subst hq
      have hlen : (l.take k).length = k := by rw [List.length_take]; omega
      refine ⟨⟨by omega, by omega, by rw [hlen]; exact hf.2.2.2.1, fitB_yes.1 hf.2.2.2.2⟩, fun r hr => ?_⟩
      rw [List.getElem?_cons_succ] at hr
      cases ks with
      | nil => simp [cutsOf] at hr
      | cons k2 ks2 =>
        obtain ⟨hc2, hl2, hk2, t2⟩ := t.inv
        simp only [cutsOf, List.getElem?_cons_zero, Option.some.injEq] at hr
        subst hr
        have hf2 := hc2.first hl2
        rw [hk2] at hf2
        rw [List.length_drop] at hl2
        obtain ⟨d, hd⟩ : ∃ d, l[k]? = some d := ⟨_, List.getElem?_eq_getElem (by omega)⟩
        refine ⟨d, ?_, fun h1 h2 => ?_⟩
        · rw [List.getElem?_take, if_pos (by omega), List.getElem?_drop]
          exact hd
        · rw [hlen] at h1 h2
          have := hc.noMore hk (by omega) h1 h2
          rwa [List.take_add_one, hd] at this
    | succ i =>
      rw [List.getElem?_cons_succ] at hq
      obtain ⟨g1, g2⟩ := ih i q hq
      exact ⟨g1, fun r hr => g2 r (by rwa [List.getElem?_cons_succ] at hr)⟩

theorem putB_same {sig : List Pr} {l l' : List Pm} (h : l.map (·.p) = l'.map (·.p)) : putB sig l = putB sig l' := by rw [← putB_plain sig l, h, putB_plain]
theorem map_at {α β : Type} {f : α → β} {l l' : List α} (h : l.map f = l'.map f) {i : Nat} {x : α} (hx : l'[i]? = some x) : ∃ y, l[i]? = some y ∧ f y = f x := by
  have := congrArg (fun z => z[i]?) h
  simp only [List.getElem?_map, hx, Option.map_some] at this
  cases hy : l[i]? with
  | none => rw [hy] at this; cases this
  | some y => rw [hy] at this; exact ⟨y, rfl, by simpa using this⟩
/-- Where its points' memory lies is of no account. -/
theorem GoodC.same {sig : List Pr} {most : Int} {L L' : List (List Pm)} (h : L.map (List.map (·.p)) = L'.map (List.map (·.p))) (hg : GoodC sig most L) : GoodC sig most L' := by
  intro i q' hq'
  obtain ⟨q, hq, e⟩ := map_at h hq'
  have el : q.length = q'.length := by have := congrArg List.length e; simpa using this
  obtain ⟨⟨g1, g2, g3, g4⟩, g5⟩ := hg i q hq
  refine ⟨⟨by omega, by omega, by rw [← el]; exact g3, by rw [← putB_same e]; exact g4⟩, fun r' hr' => ?_⟩
  obtain ⟨r, hr, e2⟩ := map_at h hr'
  obtain ⟨d, hd, hn⟩ := g5 r hr
  obtain ⟨d', hd', e3⟩ := map_at (f := fun x : Pm => x.p) e2.symm hd
  refine ⟨d', hd', fun h1 h2 => ?_⟩
  have := hn (by omega) (by rw [el]; exact h2)
  rw [putB_same (l' := q' ++ [d']) (by rw [List.map_append, List.map_append, e]; simp [e3])] at this
  exact this
#print axioms GoodC.same
end Go.Proofs.Ytlmpicfhbpnpbaa
