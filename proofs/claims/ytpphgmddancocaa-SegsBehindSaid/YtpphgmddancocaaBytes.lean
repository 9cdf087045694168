/-
  Slices of bytes: what a slice value reads as, and how that is kept; a conversion to a string, and an append, of such a one. No program here.
-/
import Derived.Laws.BytesArg
import Derived.Laws.OwnMore
import Derived.OwnWalkIn
import Derived.Below
import Derived.Deep.Draws
import Derived.Shelf.Bytes.SlEqualAll
import Derived.Maps.AppendAt
import Derived.RangeFuncNested
import Derived.RangeFuncBox
namespace Go.Proofs.Ytpphgmddancocaa
open Go.RowKit

/-- The slice value v reads as the bytes xs; they lie in a block below B. -/
def Row (w : World) (B : Nat) (v : Value) (xs : List Int) : Prop :=
  ∃ A c, v = .slice A xs.length c ∧ xs.length ≤ c ∧ c ≤ maxLen ∧ (A = none → c = 0) ∧
    (0 < xs.length → ∃ b o, A = some ⟨b, o, none⟩ ∧ b < B ∧ ∀ i, i < xs.length → w.cell? ⟨b, o + i, none⟩ = some (.int .u8 (xs.getD i 0)))

section
variable {w w' : World} {B B' : Nat} {v : Value} {xs : List Int}
theorem Row.keep (h : Row w B v xs) (hk : ∀ p : Addr, p.block < B → w'.cell? p = w.cell? p) : Row w' B v xs := by
  obtain ⟨A, c, hv, h1, h2, h3, h4⟩ := h
  refine ⟨A, c, hv, h1, h2, h3, fun hn => ?_⟩
  obtain ⟨b, o, e, hb, hc⟩ := h4 hn
  exact ⟨b, o, e, hb, fun i hi => (hk ⟨b, o + i, none⟩ hb).trans (hc i hi)⟩
theorem Row.below (h : Row w B v xs) (hb : Below B w w') : Row w' B v xs := h.keep fun _ hp => hb.cell hp
theorem Row.more (h : Row w B v xs) (hB : B ≤ B') : Row w B' v xs := by
  obtain ⟨A, c, hv, h1, h2, h3, h4⟩ := h
  refine ⟨A, c, hv, h1, h2, h3, fun hn => ?_⟩
  obtain ⟨b, o, e, hb, hc⟩ := h4 hn
  exact ⟨b, o, e, by omega, hc⟩
theorem Row.nil (w : World) (B : Nat) : Row w B (.slice none 0 0) [] := ⟨none, 0, rfl, Nat.le_refl _, Nat.zero_le _, fun _ => rfl, fun h => absurd h (by simp)⟩
theorem Row.of_own {base : Nat} {e : TypeId} {n : Nat} (h : w.ownsRow base e 1 v n (xs.map (.int .u8))) : Row w w.heap.size v xs := by
  have hl : xs.length = n := by have := h.1; simpa using this
  subst hl
  have h' := h
  rcases h.2 with ⟨rfl, h0⟩ | ⟨g, cap, cur, rfl, _, hg, hnc, hcm, _, _⟩
  · obtain rfl : xs = [] := List.eq_nil_of_length_eq_zero h0
    exact Row.nil _ _
  · refine ⟨some ⟨g, 0, none⟩, cap, rfl, hnc, hcm, by simp, fun _ => ⟨g, 0, rfl, (Array.getElem?_eq_some_iff.1 hg).1, fun i hi => ?_⟩⟩
    rw [show 0 + i = i by omega, h'.cellAt i (by omega)]
    simp [List.getElem?_map, List.getElem?_eq_getElem hi, List.getD]
theorem Row.take {A : Option Addr} {n c : Nat} (h : Row w B (.slice A n c) xs) {k : Nat} (hk : k ≤ xs.length) : Row w B (.slice A (xs.take k).length c) (xs.take k) := by
  obtain ⟨A', c', hv, h1, h2, h3, h4⟩ := h
  injection hv with e1 e2 e3
  subst e1 e3
  have hl : (xs.take k).length = k := by simp; omega
  refine ⟨A, c, rfl, by omega, h2, h3, fun hn => ?_⟩
  obtain ⟨b, o, e, hb, hc⟩ := h4 (by omega)
  refine ⟨b, o, e, hb, fun i hi => ?_⟩
  rw [hc i (by omega)]
  simp only [List.getD, List.getElem?_take]
  rw [if_pos (by omega)]
theorem Row.bytesIn (h : Row w B v xs) : ∃ A c, v = .slice A xs.length c ∧ Lib.BytesIn w A xs.length xs := by
  obtain ⟨A, c, hv, _, _, _, h4⟩ := h
  exact ⟨A, c, hv, fun hn => by obtain ⟨b, o, e, _, hc⟩ := h4 hn; exact ⟨b, o, e, hc⟩⟩
theorem Row.convert {P : Program} (h : Row w B v xs) (src e dst : TypeId) (hs : P.underlying src = some (.slice e)) (he : P.underlying e = some (.int .u8)) (hd : P.underlying dst = some .string) :
    (convert src dst v).run P w = .ok (.string (strOfNums xs)) w := by
  obtain ⟨A, c, rfl, hb⟩ := h.bytesIn
  exact hb.convert rfl c src e dst hs he hd
end

/-- append, of what such a slice reads as, behind a row of the call's own. -/
theorem run_append_row {P : Program} (w : World) (base : Nat) (t ty e : TypeId) (i : TypeInfo) (z : Value) (ht : P.underlying t = some (.slice e)) (hi : P.info? e = some i) (hz : i.zero = some z)
    (hsize : i.size = 1) (hby : i.bytes = 1) (hzs : z.cells.size = 1)
    (v : Value) (n : Nat) (us : List Value) (hown : w.ownsRow base e 1 v n us) (B : Nat) (sv : Value) (xs : List Int) (hr : Row w B sv xs)
    (hlen : n + xs.length ≤ 140737488355328) (hbase : base ≤ w.heap.size) :
    ∃ v' w', (Builtin.append_ #[t, t] ty #[v, sv]).run P w = .ok v' w' ∧ w'.ownsRow base e 1 v' (n + xs.length) (us ++ xs.map (.int .u8)) ∧ w.grownBy w' v.ownBlock ∧ (v' = .slice none 0 0 ↔ v = .slice none 0 0 ∧ xs.length = 0) := by
  obtain ⟨A, c, rfl, h1, h2, h3, h4⟩ := hr
  rcases A with _ | ad
  · have hx : xs = [] := by
      rcases Nat.eq_zero_or_pos xs.length with h0 | h0
      · exact List.eq_nil_of_length_eq_zero h0
      · obtain ⟨b, o, he, _⟩ := h4 h0
        cases he
    subst hx
    obtain rfl := h3 rfl
    exact ⟨v, w, run_append_owned_none w base t ty e i 1 ht hi v n us hown, by simpa using hown, World.grownBy.refl w _, by simp⟩
  · refine run_append_own w base t ty e i z 1 1 ht hi hz hsize hby hzs (by omega) v n us hown ad xs.length c (xs.map (.int .u8)) (by simp) (fun j u hu => ?_) (fun u hu => ?_) (by simp only [maxLen]; omega) (by omega) hbase
    · have hj : j < xs.length := by
        have := (List.getElem?_eq_some_iff.1 hu).1
        simpa using this
      obtain ⟨b, o, he, _, hc⟩ := h4 (by omega)
      obtain rfl : ad = ⟨b, o, none⟩ := by injection he
      have hu' : u = .int .u8 (xs.getD j 0) := by
        rw [List.getElem?_map, List.getElem?_eq_getElem hj] at hu
        simp at hu
        simp [List.getD, List.getElem?_eq_getElem hj, hu]
      rw [hu', ← hc j hj, Go.WideShapes.add_plain]
    · obtain ⟨x, _, rfl⟩ := List.mem_map.1 hu
      simp [Value.oneCell']

/-- The same as a step of a walk inside a fence. -/
theorem wpListIn_append_row {F : Fence} {n : Nat} {P : Program} (w : World) {ops : Array Oper} {rest : List Oper} {o : Oper} {a : Act} {Q : Exit → Act → World → Prop}
    (hg : o.guard = none) (s x : Operand) (t : TypeId) (hop : o.op = Op.call { callee := Callee.builtin Builtin.append, args := #[s, x], argTypes := #[t, t] })
    (base : Nat) (e : TypeId) (i : TypeInfo) (z : Value) (h1 : P.underlying t = some (.slice e)) (h2 : P.info? e = some i) (h3 : i.zero = some z) (h4 : i.size = 1) (h5 : i.bytes = 1) (h6 : z.cells.size = 1)
    (v : Value) (k : Nat) (us : List Value) (hs : a.eval s = v) (hown : w.ownsRow base e 1 v k us) (B : Nat) (sv : Value) (xs : List Int) (hx : a.eval x = sv) (hr : Row w B sv xs)
    (b2 : k + xs.length ≤ 140737488355328) (b3 : base ≤ w.heap.size)
    (hK : ∀ v' w', w'.ownsRow base e 1 v' (k + xs.length) (us ++ xs.map (.int .u8)) → w.grownBy w' v.ownBlock → (v' = .slice none 0 0 ↔ v = .slice none 0 0 ∧ xs.length = 0) → wpListIn F n P ops Q rest (a.put o.dst v') w') :
    wpListIn F n P ops Q (o :: rest) a w := by
  refine wpListIn_plain hg fun K hK' => ?_
  obtain ⟨v', w', hrun, r1, r2, r3⟩ := run_append_row (P := P) w base t o.type e i z h1 h2 h3 h4 h5 h6 v k us hown B sv xs hr b2 b3
  unfold Oper.wpIn
  refine ⟨?_, ?_⟩
  · simp [Oper.about, hop, resolve, Target.leads, Sem.run_pure]
  · rw [Oper.semAt_plain F _ _ (by rw [hop]; intro c hc'; cases hc')]
    simp [execOp, hop, resolve, invoke, builtin, hs, hx, hrun, Result.andThen]
    exact hK' _ _ (hK v' w' r1 r2 r3)

/-- A variable's box, and the slice in it, behind an append of what another slice reads as, stored back. -/
theorem boxed_grown {W w1 : World} {n₀ B : Nat} {t e : TypeId} {size : Nat} {v v' : Value} {k m : Nat} {xs ys : List Value}
    (hv : Boxed W B t v) (hte : t ≠ e) (hrow : W.ownsRow n₀ e size v k xs) (hn₀ : n₀ ≤ W.heap.size) (hB : n₀ ≤ B)
    (hown' : w1.ownsRow n₀ e size v' m ys) (hgrow : W.grownBy w1 v.ownBlock) :
    Boxed w1 B t v ∧ Boxed (w1.setCell ⟨B, 0, none⟩ v') B t v' ∧ (w1.setCell ⟨B, 0, none⟩ v').ownsRow n₀ e size v' m ys ∧ Below n₀ W (w1.setCell ⟨B, 0, none⟩ v') := by
  have hv1 : Boxed w1 B t v := hv.kept hgrow (hv.not_row hte hrow)
  refine ⟨hv1, hv1.set v', hown'.kept (grownBy_setCell' w1 B v') (.inr (hv1.not_row hte hown').symm), ?_⟩
  refine ((Below.refl n₀ W).grown hgrow hn₀ fun j ej => ?_).setCell (p := ⟨B, 0, none⟩) hB v'
  exact (hrow.lt j ej).1
/-- A slice that owns a row, and isn't nil, is written out. -/
theorem ownsRow_some {W : World} {base : Nat} {e : TypeId} {size : Nat} {v : Value} {k : Nat} {xs : List Value} (h : W.ownsRow base e size v k xs) (hne : v ≠ .slice none 0 0) : ∃ g cap, v = .slice (some ⟨g, 0, none⟩) k cap := by
  rcases h.2 with ⟨h0, _⟩ | ⟨g, cap, _, rfl, _⟩
  · exact absurd h0 hne
  · exact ⟨g, cap, rfl⟩
end Go.Proofs.Ytpphgmddancocaa
