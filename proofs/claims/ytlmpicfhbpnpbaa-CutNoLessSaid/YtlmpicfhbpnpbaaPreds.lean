/-
  Slices of predicates: what such a one reads as, and how that is kept; one that came in. No program here.
-/
import Derived.Test.YtlmpicfhbpnpbaaRows
import Derived.Test.YtlmpicfhbpnpbaaSlices
import Derived.Test.YtlmpicfhbpnpbaaCur
import Derived.Test.YtlmpicfhbpnpbaaPlainSigs
import Derived.Deep.SlicePairs
import Derived.OpenShut
namespace Go.Proofs.Ytlmpicfhbpnpbaa
open Go.RowKit Go.ChangeShapes Go.WideShapes

/-- The slice value v reads as the numbers xs. -/
def IRow (w : World) (B : Nat) (v : Value) (xs : List Int) : Prop := VRow w B v (xs.map (.int .i64))
theorem IRow.below {w w' : World} {B : Nat} {v : Value} {xs : List Int} (h : IRow w B v xs) (hb : Below B w w') : IRow w' B v xs := VRow.below h hb
theorem IRow.more {w : World} {B B' : Nat} {v : Value} {xs : List Int} (h : IRow w B v xs) (hB : B ≤ B') : IRow w B' v xs := VRow.more h hB
/-- The cell of the number at a place. -/
theorem IRow.at {w : World} {B n c : Nat} {A : Option Addr} {xs : List Int} (h : IRow w B (.slice A n c) xs) {i : Nat} (hi : i < xs.length) : ∃ b o, A = some ⟨b, o, none⟩ ∧ b < B ∧ w.cell? ⟨b, o + i, none⟩ = some (.int .i64 (xs.getD i 0)) := by
  obtain ⟨A', c', hv, _, _, _, h4⟩ := h
  injection hv with e1 _ _
  obtain ⟨b, o, e, hb, hc⟩ := h4 (by rw [List.length_map]; omega)
  exact ⟨b, o, e1.trans e, hb, hc i _ (by rw [List.getElem?_map, List.getElem?_eq_getElem hi]; simp [List.getD, List.getElem?_eq_getElem hi])⟩
theorem irow_of_arg {w : World} {a : Option Addr} {len cap : Nat} {zs : List Int} (h : IsRow .i64 w a len cap zs) :
    ∃ xs : List Int, xs.length = len ∧ IRow w w.heap.size (.slice a len cap) xs ∧ ∀ x ∈ xs, -9223372036854775808 ≤ x ∧ x ≤ 9223372036854775807 := by
  rcases h with ⟨rfl, rfl, rfl, rfl⟩ | ⟨x, rfl, hl, hm, hz, hc, hw⟩
  · exact ⟨[], rfl, VRow.nil _ _, by simp⟩
  · have hlen : (zs.take len).length = len := by simp; omega
    refine ⟨zs.take len, hlen, ⟨some x, cap, by rw [List.length_map, hlen], by rw [List.length_map, hlen]; exact hl, hm, by simp, fun hn => ?_⟩, fun y hy => ?_⟩
    · rw [List.length_map, hlen] at hn
      obtain ⟨b, o, sp⟩ := x
      have h0 := hc 0 (by omega)
      have hs : sp = none := by simpa [Addr.add] using World.cell?_spot h0
      subst hs
      refine ⟨b, o, rfl, World.block_lt_of_cell? w ⟨b, o, none⟩ (by simpa [Addr.add] using h0), fun i u hi => ?_⟩
      have hlt := (List.getElem?_eq_some_iff.1 hi).1
      rw [List.length_map, hlen] at hlt
      have hi' := hc i (by omega)
      rw [Go.WideShapes.add_plain] at hi'
      rw [hi']
      have hget : zs[i]? = some (zs[i]'(by omega)) := List.getElem?_eq_getElem (by omega)
      simp only [List.getElem?_map, List.getElem?_take, if_pos hlt, hget, Option.map_some, Option.some.injEq] at hi
      rw [← hi, List.getD, hget]
      rfl
    · have := bounds_i64 (hw y (List.mem_of_mem_take hy))
      omega

/-- A predicate, and where its arguments' types lie. -/
structure Pd where
  p : Pr
  A : Option Addr
  c : Nat
/-- Its value. -/
abbrev Pd.val (d : Pd) : Value := .agg #[.string (strOfNums d.p.name), .slice d.A d.p.args.length d.c]
/-- What it is made of is what the machine can hold. -/
def Pd.Fits (d : Pd) : Prop := d.p.name.length ≤ maxLen ∧ (∀ x ∈ d.p.name, 0 ≤ x ∧ x < 256) ∧ ∀ x ∈ d.p.args, -9223372036854775808 ≤ x ∧ x ≤ 9223372036854775807
/-- The slice value reads as these predicates; they lie in a block below B. -/
def PredRow (w : World) (B : Nat) (v : Value) (ds : List Pd) : Prop :=
  ∃ A c, v = .slice A ds.length c ∧ ds.length ≤ c ∧ c ≤ maxLen ∧ (A = none → c = 0) ∧
    (0 < ds.length → ∃ b o, A = some ⟨b, o, none⟩ ∧ b < B ∧ ∀ (i : Nat) (d : Pd), ds[i]? = some d → w.cell? ⟨b, o + i * 2, none⟩ = some (.string (strOfNums d.p.name)) ∧ w.cell? ⟨b, o + i * 2 + 1, none⟩ = some (.slice d.A d.p.args.length d.c)) ∧
    ∀ d ∈ ds, IRow w B (.slice d.A d.p.args.length d.c) d.p.args ∧ d.Fits
section
variable {w w' : World} {B B' : Nat} {v : Value} {ds : List Pd}
theorem PredRow.below (h : PredRow w B v ds) (hb : Below B w w') : PredRow w' B v ds := by
  obtain ⟨A, c, hv, h1, h2, h3, h4, h5⟩ := h
  refine ⟨A, c, hv, h1, h2, h3, fun hn => ?_, fun d hd => ⟨(h5 d hd).1.below hb, (h5 d hd).2⟩⟩
  obtain ⟨b, o, e, hlt, hc⟩ := h4 hn
  exact ⟨b, o, e, hlt, fun i d hd => ⟨(hb.cell (p := ⟨b, o + i * 2, none⟩) hlt).trans (hc i d hd).1, (hb.cell (p := ⟨b, o + i * 2 + 1, none⟩) hlt).trans (hc i d hd).2⟩⟩
theorem PredRow.more (h : PredRow w B v ds) (hB : B ≤ B') : PredRow w B' v ds := by
  obtain ⟨A, c, hv, h1, h2, h3, h4, h5⟩ := h
  refine ⟨A, c, hv, h1, h2, h3, fun hn => ?_, fun d hd => ⟨(h5 d hd).1.more hB, (h5 d hd).2⟩⟩
  obtain ⟨b, o, e, hlt, hc⟩ := h4 hn
  exact ⟨b, o, e, Nat.lt_of_lt_of_le hlt hB, hc⟩
theorem PredRow.nil (w : World) (B : Nat) : PredRow w B (.slice none 0 0) [] := ⟨none, 0, rfl, Nat.le_refl _, Nat.zero_le _, fun _ => rfl, fun h => absurd h (by simp), by simp⟩
theorem PredRow.form (h : PredRow w B v ds) : ∃ A c, v = .slice A ds.length c ∧ ds.length ≤ c ∧ c ≤ 9223372036854775807 := by
  obtain ⟨A, c, hv, h1, h2, _⟩ := h
  unfold maxLen at h2
  exact ⟨A, c, hv, h1, by omega⟩
/-- The cells of the predicate at a place. -/
theorem PredRow.at {A : Option Addr} {n c : Nat} (h : PredRow w B (.slice A n c) ds) {i : Nat} {d : Pd} (hd : ds[i]? = some d) : ∃ b o, A = some ⟨b, o, none⟩ ∧ b < B ∧
    w.cell? ⟨b, o + i * 2, none⟩ = some (.string (strOfNums d.p.name)) ∧ w.cell? ⟨b, o + i * 2 + 1, none⟩ = some (.slice d.A d.p.args.length d.c) ∧ IRow w B (.slice d.A d.p.args.length d.c) d.p.args ∧ d.Fits ∧ d.p.args.length ≤ d.c ∧ d.c ≤ 9223372036854775807 := by
  obtain ⟨A', c', hv, h1, h2, h3, h4, h5⟩ := h
  injection hv with e1 _ _
  have hlt := (List.getElem?_eq_some_iff.1 hd).1
  obtain ⟨b, o, e, hb, hc⟩ := h4 (by omega)
  obtain ⟨q1, q2⟩ := h5 d (List.mem_of_getElem? hd)
  obtain ⟨_, _, ev, r1, r2, _⟩ := id q1
  injection ev with _ _ e3
  rw [List.length_map] at r1
  unfold maxLen at r2
  exact ⟨b, o, e1.trans e, hb, (hc i d hd).1, (hc i d hd).2, q1, q2, by omega, by omega⟩
theorem PredRow.take {A : Option Addr} {n c : Nat} (h : PredRow w B (.slice A n c) ds) {k : Nat} (hk : k ≤ ds.length) : PredRow w B (.slice A (ds.take k).length c) (ds.take k) := by
  obtain ⟨A', c', hv, h1, h2, h3, h4, h5⟩ := h
  injection hv with e1 e2 e3
  subst e1 e3
  have hl : (ds.take k).length = k := by simp; omega
  refine ⟨A, c, rfl, by omega, h2, h3, fun hn => ?_, fun d hd => h5 d (List.mem_of_mem_take hd)⟩
  obtain ⟨b, o, e, hb, hc⟩ := h4 (by omega)
  refine ⟨b, o, e, hb, fun i d hd => hc i d ?_⟩
  have hlt := (List.getElem?_eq_some_iff.1 hd).1
  rwa [List.getElem?_take, if_pos (by omega)] at hd
end
theorem at_pr {ds : List Pd} {i : Nat} {d : Pd} (h : ds[i]? = some d) : (ds.map (·.p))[i]? = some d.p := by rw [List.getElem?_map, h]; rfl
theorem pr_at {ds : List Pd} {i : Nat} {p : Pr} (h : (ds.map (·.p))[i]? = some p) : ∃ d, ds[i]? = some d ∧ d.p = p := by
  rw [List.getElem?_map] at h
  cases hd : ds[i]? with
  | none => rw [hd] at h; cases h
  | some d => rw [hd] at h; exact ⟨d, rfl, by simpa using h⟩

set_option maxRecDepth 100000 in
/-- A slice of predicates that came in. -/
theorem preds_of {H : Type} {enc : TypeId × Value → H} {w : World} {fuel : Nat} {a : Option Addr} {len cap : Nat} {x : DataW H × List MemPlace}
    (h : DataW.trod enc Try.prog w 0 (fun _ => true) true fuel 22 [.slice a len cap] = some x) : ∃ ds : List Pd, ds.length = len ∧ PredRow w w.heap.size (.slice a len cap) ds := by
  rcases Go.Deep.open_slice_pairs Try.underlying22 Try.underlying59 (by kernel_rfl) rfl rfl (by kernel_rfl) (by kernel_rfl) h with ⟨hcs, _⟩ | ⟨ad, len', cap', m, n, V0, V1, D0, D1, P0, P1, hcs, hb, hl, hm, hmm, _, hi⟩
  · simp at hcs
    obtain ⟨rfl, rfl, rfl⟩ := hcs
    exact ⟨[], rfl, PredRow.nil _ _⟩
  · simp at hcs
    obtain ⟨rfl, rfl, rfl⟩ := hcs
    have hlm : len ≤ m := by rw [hmm]; split <;> omega
    have each : ∀ i, i < len → ∃ d : Pd, w.cell? (ad.add (i * 2)) = some (.string (strOfNums d.p.name)) ∧ w.cell? (ad.add (i * 2 + 1)) = some (.slice d.A d.p.args.length d.c) ∧ IRow w w.heap.size (.slice d.A d.p.args.length d.c) d.p.args ∧ d.Fits := by
      intro i hlt
      obtain ⟨g0, g1, t0, t1⟩ := hi i (by omega)
      obtain ⟨s0, e0, _, hsz⟩ := DataW.trod_string Try.underlying9 t0
      injection e0 with e0
      obtain ⟨A, ln, cp, zs, ev, hz⟩ : ∃ a0 len0 cap0 zs, V1 i = .slice a0 len0 cap0 ∧ IsRow .i64 w a0 len0 cap0 zs := by
        rcases open_ints Try.underlying57 Try.underlying3 (by kernel_rfl) t1 with ⟨hcs, _⟩ | ⟨x, l, c, zs, hcs, _, hl, hm, hz, _, hcell, hwz⟩
        · simp at hcs
          exact ⟨none, 0, 0, [], hcs, .inl ⟨rfl, rfl, rfl, rfl⟩⟩
        · simp at hcs
          exact ⟨some x, l, c, zs, hcs, .inr ⟨_, rfl, hl, hm, by simpa using hz, hcell, hwz⟩⟩
      obtain ⟨xs, rfl, hr, hby⟩ := irow_of_arg hz
      obtain ⟨nm, rfl, hnl, hnb⟩ := text_of s0
      exact ⟨⟨⟨nm, xs⟩, A, cp⟩, by rw [g0, e0], by rw [g1, ev], hr, by rw [hnl]; exact hsz, hnb, hby⟩
    let f : Nat → Pd := fun i => if h : i < len then Classical.choose (each i h) else ⟨⟨[], []⟩, none, 0⟩
    have hf : ∀ i, i < len → w.cell? (ad.add (i * 2)) = some (.string (strOfNums (f i).p.name)) ∧ w.cell? (ad.add (i * 2 + 1)) = some (.slice (f i).A (f i).p.args.length (f i).c) ∧ IRow w w.heap.size (.slice (f i).A (f i).p.args.length (f i).c) (f i).p.args ∧ (f i).Fits := by
      intro i hlt
      have := Classical.choose_spec (each i hlt)
      simp only [f, dif_pos hlt]
      exact this
    have hlen : ((List.range len).map f).length = len := by simp
    refine ⟨(List.range len).map f, hlen, some ad, cap, by rw [hlen], by omega, hm, by simp, fun hn => ?_, fun d hd => ?_⟩
    · rw [hlen] at hn
      obtain ⟨b, o, sp⟩ := ad
      have h0 := (hf 0 hn).1
      have hs : sp = none := by simpa [Addr.add] using World.cell?_spot h0
      subst hs
      refine ⟨b, o, rfl, World.block_lt_of_cell? w ⟨b, o, none⟩ (by simpa [Addr.add] using h0), fun i d hd => ?_⟩
      have hlt : i < len := by have := (List.getElem?_eq_some_iff.1 hd).1; simpa using this
      have hd' : f i = d := by simpa [List.getElem?_map, List.getElem?_range, hlt] using hd
      subst hd'
      obtain ⟨g0, g1, _⟩ := hf i hlt
      rw [Go.WideShapes.add_plain] at g0 g1
      exact ⟨g0, g1⟩
    · obtain ⟨i, hi', rfl⟩ := List.mem_map.1 hd
      obtain ⟨_, _, q1, q2⟩ := hf i (List.mem_range.1 hi')
      exact ⟨q1, q2⟩
#print axioms preds_of
end Go.Proofs.Ytlmpicfhbpnpbaa
