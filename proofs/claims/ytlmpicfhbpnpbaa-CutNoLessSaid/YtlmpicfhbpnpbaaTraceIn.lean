/-
  Traces that came in: what a slice of arguments, of events, of points of the caller's reads as; how long each may be. No function of the program here.
-/
import Derived.Test.YtlmpicfhbpnpbaaTraceRows
import Derived.Deep.SlicePairs
import Derived.SizedLaws
namespace Go.Proofs.Ytlmpicfhbpnpbaa
open Go.RowKit Go.ChangeShapes Go.WideShapes

theorem list_of {α : Type} {P : Nat → α → Prop} : ∀ {len : Nat}, (∀ i, i < len → ∃ d, P i d) → ∃ l : List α, l.length = len ∧ ∀ i d, l[i]? = some d → P i d
  | 0, _ => ⟨[], rfl, fun i d h => by simp at h⟩
  | n + 1, h => by
    obtain ⟨l, hl, hp⟩ := list_of (fun i hi => h i (Nat.lt_succ_of_lt hi))
    obtain ⟨d, hd⟩ := h n (Nat.lt_succ_self n)
    refine ⟨l ++ [d], by simp [hl], fun i e hi => ?_⟩
    by_cases hlt : i < l.length
    · rw [List.getElem?_append_left hlt] at hi
      exact hp i e hi
    · have hi2 := (List.getElem?_eq_some_iff.1 hi).1
      simp at hi2
      obtain rfl : i = l.length := by omega
      simp at hi
      rw [← hi, hl]
      exact hd
theorem weightsAll_mem {H : Type} {P : Program} {e : TypeId} : ∀ {l : List (DataW H)} {d : DataW H} {n : Nat}, d ∈ l → n ∈ d.weights P e → n ∈ DataW.weightsAll P e l
  | [], d, n, h, _ => by simp at h
  | c :: l, d, n, h, hn => by
    simp only [DataW.weightsAll, List.mem_append]
    rcases List.mem_cons.1 h with rfl | h
    · exact .inl hn
    · exact .inr (weightsAll_mem h hn)
/-- What a slice's elements weigh. -/
theorem slice_weights {H : Type} {P : Program} {t e : TypeId} {es sp : List (DataW H)} {R : Nat} (hu : P.underlying t = some (.slice e)) (h : ∀ n ∈ (DataW.slice es sp).weights P t, n ≤ R) :
    (es.length + sp.length) * P.bytesOf e ≤ R ∧ ∀ d ∈ es, ∀ n ∈ d.weights P e, n ≤ R := by
  simp only [DataW.weights, hu] at h
  exact ⟨h _ (by simp), fun d hd n hn => h n (List.mem_cons_of_mem _ (List.mem_append.2 (.inl (weightsAll_mem hd hn))))⟩
set_option maxRecDepth 100000 in
theorem args_of {H : Type} {enc : TypeId × Value → H} {w : World} {fuel : Nat} {a : Option Addr} {len cap : Nat} {x : DataW H × List MemPlace}
    (h : DataW.trod enc Try.prog w 0 (fun _ => true) true fuel 40 [.slice a len cap] = some x) :
    ∃ l : List Ag, l.length = len ∧ GRow w w.heap.size (.slice a len cap) l ∧ ∀ R, (∀ n ∈ x.1.weights Try.prog 40, n ≤ R) → len * 32 ≤ R := by
  rcases Go.Deep.open_slice Try.underlying40 h with ⟨hcs, _⟩ | ⟨ad, len', cap', m, n, D, Pl, hcs, hb, hl, hm, hmm, rfl, hi⟩
  · simp at hcs
    obtain ⟨rfl, rfl, rfl⟩ := hcs
    exact ⟨[], rfl, ⟨ERow.nil _ _, by simp⟩, by simp⟩
  · simp at hcs
    obtain ⟨rfl, rfl, rfl⟩ := hcs
    have hlm : len ≤ m := by rw [hmm]; split <;> omega
    have ce : (Try.prog).cellsOf 61 = 3 := by kernel_rfl
    have c3 : (Try.prog).cellsOf 3 = 1 := by kernel_rfl
    have c2 : (Try.prog).cellsOf 2 = 1 := by kernel_rfl
    have c9 : (Try.prog).cellsOf 9 = 1 := by kernel_rfl
    have each : ∀ i, i < len → ∃ d : Ag, (w.cell? (ad.add (i * 3)) = some (.int .i64 d.t) ∧ w.cell? (ad.add (i * 3 + 1)) = some (.int .i64 d.n) ∧ w.cell? (ad.add (i * 3 + 2)) = some (.string (strOfNums d.s))) ∧ d.Fits := by
      intro i hlt
      obtain ⟨cs', h1, h2⟩ := hi i (by omega)
      rw [ce] at h1
      obtain ⟨_, hlen, hcell⟩ := World.cells?_some h1
      obtain ⟨xs, k, hk, hxy, _, hxl, hf⟩ := DataW.trod_struct Try.underlying61 h2
      match xs, hxl, cs', hlen with
      | [y0, y1, y2], _, [v0, v1, v2], _ =>
        have g0 := hf 0 _ rfl
        have g1 := hf 1 _ rfl
        have g2 := hf 2 _ rfl
        simp [c3, c2, c9] at g0 g1 g2
        have e0 := hcell 0 (by omega)
        have e1 := hcell 1 (by omega)
        have e2 := hcell 2 (by omega)
        rw [Go.Deep.add_add] at e0 e1 e2
        obtain ⟨n0, u0, _, w0⟩ := DataW.trod_int (k := .i64) Try.underlying3 g0
        obtain ⟨n1, u1, _, w1⟩ := DataW.trod_int (k := .i64) Try.underlying2 g1
        obtain ⟨s0, u2, _, hsz⟩ := DataW.trod_string Try.underlying9 g2
        injection u0 with u0
        injection u1 with u1
        injection u2 with u2
        obtain ⟨nm, rfl, hnl, hnb⟩ := text_of s0
        subst u0 u1 u2
        exact ⟨⟨n0, n1, nm⟩, ⟨by simpa using e0, by simpa using e1, by simpa using e2⟩, by rw [hnl]; exact hsz, hnb, bounds_i64 w0, bounds_i64 w1⟩
    obtain ⟨l, hll, hlp⟩ := list_of each
    subst hll
    refine ⟨l, rfl, ⟨⟨some ad, cap, rfl, hl, hm, by simp, fun hn => ?_⟩, fun d hd => ?_⟩, fun R hR => ?_⟩
    · obtain ⟨d0, hd0⟩ : ∃ d, l[0]? = some d := ⟨_, List.getElem?_eq_getElem hn⟩
      have h0 := (hlp 0 d0 hd0).1.1
      obtain ⟨b, o, sp⟩ := ad
      have hs : sp = none := by simpa [Addr.add] using World.cell?_spot h0
      subst hs
      refine ⟨b, o, rfl, World.block_lt_of_cell? w ⟨b, o, none⟩ (by simpa [Addr.add] using h0), fun j u hj => ?_⟩
      have hjl := (List.getElem?_eq_some_iff.1 hj).1
      rw [flatG_length] at hjl
      obtain ⟨d, hd⟩ : ∃ d, l[j / 3]? = some d := ⟨_, List.getElem?_eq_getElem (by omega)⟩
      obtain ⟨f0, f1, f2⟩ := flatG_at l _ d hd
      obtain ⟨⟨q0, q1, q2⟩, _⟩ := hlp _ d hd
      rw [add_plain] at q0 q1 q2
      rcases (by omega : j = j / 3 * 3 ∨ j = j / 3 * 3 + 1 ∨ j = j / 3 * 3 + 2) with e | e | e
      · rw [e] at hj ⊢
        rw [f0] at hj
        rw [← hj]
        exact q0
      · rw [e] at hj ⊢
        rw [f1] at hj
        rw [← hj]
        exact q1
      · rw [e] at hj ⊢
        rw [f2] at hj
        rw [← hj]
        exact q2
    · obtain ⟨i, hi'⟩ := List.mem_iff_getElem?.1 hd
      exact (hlp i d hi').2
    · have := (slice_weights Try.underlying40 hR).1
      rw [show (Try.prog).bytesOf 61 = 32 by kernel_rfl] at this
      simp at this
      omega

set_option maxRecDepth 100000 in
theorem events_of {H : Type} {enc : TypeId × Value → H} {w : World} {fuel : Nat} {a : Option Addr} {len cap : Nat} {x : DataW H × List MemPlace}
    (h : DataW.trod enc Try.prog w 0 (fun _ => true) true fuel 37 [.slice a len cap] = some x) :
    ∃ l : List Em, l.length = len ∧ EvRow w w.heap.size (.slice a len cap) l ∧ ∀ R, (∀ n ∈ x.1.weights Try.prog 37, n ≤ R) → len * 32 ≤ R ∧ ∀ d ∈ l, d.args.length * 32 ≤ R := by
  rcases Go.Deep.open_slice_pairs Try.underlying37 Try.underlying42 (by kernel_rfl) rfl rfl (by kernel_rfl) (by kernel_rfl) h with ⟨hcs, _⟩ | ⟨ad, len', cap', m, n, V0, V1, D0, D1, P0, P1, hcs, hb, hl, hm, hmm, rfl, hi⟩
  · simp at hcs
    obtain ⟨rfl, rfl, rfl⟩ := hcs
    exact ⟨[], rfl, ⟨ERow.nil _ _, by simp⟩, by simp⟩
  · simp at hcs
    obtain ⟨rfl, rfl, rfl⟩ := hcs
    have hlm : len ≤ m := by rw [hmm]; split <;> omega
    have each : ∀ i, i < len → ∃ d : Em, (w.cell? (ad.add (i * 2)) = some (.int .i64 d.p) ∧ w.cell? (ad.add (i * 2 + 1)) = some (.slice d.A d.args.length d.c)) ∧ d.Ok w w.heap.size ∧ ∀ R, (∀ n ∈ (D1 i).weights Try.prog 40, n ≤ R) → d.args.length * 32 ≤ R := by
      intro i hlt
      obtain ⟨g0, g1, t0, t1⟩ := hi i (by omega)
      obtain ⟨y0, e0, _, w0⟩ := DataW.trod_int (k := .i64) Try.underlying3 t0
      injection e0 with e0
      obtain ⟨A, ln, cp, ev⟩ : ∃ a0 len0 cap0, V1 i = .slice a0 len0 cap0 := by
        rcases Go.Deep.open_slice Try.underlying40 t1 with ⟨hcs, _⟩ | ⟨x, l, c, _, _, _, _, hcs, _⟩
        · simp at hcs
          exact ⟨none, 0, 0, hcs⟩
        · simp at hcs
          exact ⟨some x, l, c, hcs⟩
      rw [ev] at t1 g1
      rw [e0] at g0
      obtain ⟨zs, rfl, hz, hR⟩ := args_of t1
      exact ⟨⟨y0, zs, A, cp⟩, ⟨g0, g1⟩, ⟨hz, bounds_i64 w0⟩, hR⟩
    obtain ⟨l, hll, hlp⟩ := list_of each
    subst hll
    refine ⟨l, rfl, ⟨⟨some ad, cap, rfl, hl, hm, by simp, fun hn => ?_⟩, fun d hd => ?_⟩, fun R hR => ?_⟩
    · obtain ⟨d0, hd0⟩ : ∃ d, l[0]? = some d := ⟨_, List.getElem?_eq_getElem hn⟩
      have h0 := (hlp 0 d0 hd0).1.1
      obtain ⟨b, o, sp⟩ := ad
      have hs : sp = none := by simpa [Addr.add] using World.cell?_spot h0
      subst hs
      refine ⟨b, o, rfl, World.block_lt_of_cell? w ⟨b, o, none⟩ (by simpa [Addr.add] using h0), fun j u hj => ?_⟩
      have hjl := (List.getElem?_eq_some_iff.1 hj).1
      rw [flatE_length] at hjl
      obtain ⟨d, hd⟩ : ∃ d, l[j / 2]? = some d := ⟨_, List.getElem?_eq_getElem (by omega)⟩
      obtain ⟨f0, f1⟩ := flatE_at l _ d hd
      obtain ⟨⟨q0, q1⟩, _⟩ := hlp _ d hd
      rw [add_plain] at q0 q1
      rcases (by omega : j = j / 2 * 2 ∨ j = j / 2 * 2 + 1) with e | e
      · rw [e] at hj ⊢
        rw [f0] at hj
        rw [← hj]
        exact q0
      · rw [e] at hj ⊢
        rw [f1] at hj
        rw [← hj]
        exact q1
    · obtain ⟨i, hi'⟩ := List.mem_iff_getElem?.1 hd
      exact (hlp i d hi').2.1
    · obtain ⟨hw, hel⟩ := slice_weights Try.underlying37 hR
      rw [show (Try.prog).bytesOf 42 = 32 by kernel_rfl] at hw
      simp at hw
      refine ⟨by omega, fun d hd => ?_⟩
      obtain ⟨i, hi'⟩ := List.mem_iff_getElem?.1 hd
      have hil := (List.getElem?_eq_some_iff.1 hi').1
      refine (hlp i d hi').2.2 R fun n hn => hel (.agg [D0 i, D1 i]) (List.mem_map.2 ⟨i, List.mem_range.2 hil, rfl⟩) n ?_
      simp only [DataW.weights, Try.underlying42, DataW.weightsEach, List.mem_append, List.map]
      exact .inr (.inl hn)
#print axioms events_of

set_option maxRecDepth 100000 in
theorem points_of {H : Type} {enc : TypeId × Value → H} {w : World} {fuel : Nat} {a : Option Addr} {len cap : Nat} {x : DataW H × List MemPlace}
    (h : DataW.trod enc Try.prog w 0 (fun _ => true) true fuel 23 [.slice a len cap] = some x) :
    ∃ l : List Pm, l.length = len ∧ TrRow w w.heap.size (.slice a len cap) l ∧ ∀ R, (∀ n ∈ x.1.weights Try.prog 23, n ≤ R) → len * 32 ≤ R ∧ ∀ d ∈ l, d.evs.length * 32 ≤ R ∧ ∀ x ∈ d.evs, x.args.length * 32 ≤ R := by
  rcases Go.Deep.open_slice_pairs Try.underlying23 Try.underlying39 (by kernel_rfl) rfl rfl (by kernel_rfl) (by kernel_rfl) h with ⟨hcs, _⟩ | ⟨ad, len', cap', m, n, V0, V1, D0, D1, P0, P1, hcs, hb, hl, hm, hmm, rfl, hi⟩
  · simp at hcs
    obtain ⟨rfl, rfl, rfl⟩ := hcs
    exact ⟨[], rfl, ⟨ERow.nil _ _, by simp⟩, by simp⟩
  · simp at hcs
    obtain ⟨rfl, rfl, rfl⟩ := hcs
    have hlm : len ≤ m := by rw [hmm]; split <;> omega
    have each : ∀ i, i < len → ∃ d : Pm, (w.cell? (ad.add (i * 2)) = some (.int .u64 d.tm) ∧ w.cell? (ad.add (i * 2 + 1)) = some (.slice d.A d.evs.length d.c)) ∧ d.Ok w w.heap.size ∧ ∀ R, (∀ n ∈ (D1 i).weights Try.prog 37, n ≤ R) → d.evs.length * 32 ≤ R ∧ ∀ x ∈ d.evs, x.args.length * 32 ≤ R := by
      intro i hlt
      obtain ⟨g0, g1, t0, t1⟩ := hi i (by omega)
      obtain ⟨y0, e0, _, w0⟩ := DataW.trod_int (k := .u64) Try.underlying36 t0
      injection e0 with e0
      obtain ⟨A, ln, cp, ev⟩ : ∃ a0 len0 cap0, V1 i = .slice a0 len0 cap0 := by
        rcases Go.Deep.open_slice Try.underlying37 t1 with ⟨hcs, _⟩ | ⟨x, l, c, _, _, _, _, hcs, _⟩
        · simp at hcs
          exact ⟨none, 0, 0, hcs⟩
        · simp at hcs
          exact ⟨some x, l, c, hcs⟩
      rw [ev] at t1 g1
      rw [e0] at g0
      obtain ⟨zs, rfl, hz, hR⟩ := events_of t1
      exact ⟨⟨y0, zs, A, cp⟩, ⟨g0, g1⟩, ⟨hz, by have := bounds_u64 w0; unfold Pm.Fits; dsimp only; omega⟩, hR⟩
    obtain ⟨l, hll, hlp⟩ := list_of each
    subst hll
    refine ⟨l, rfl, ⟨⟨some ad, cap, rfl, hl, hm, by simp, fun hn => ?_⟩, fun d hd => ?_⟩, fun R hR => ?_⟩
    · obtain ⟨d0, hd0⟩ : ∃ d, l[0]? = some d := ⟨_, List.getElem?_eq_getElem hn⟩
      have h0 := (hlp 0 d0 hd0).1.1
      obtain ⟨b, o, sp⟩ := ad
      have hs : sp = none := by simpa [Addr.add] using World.cell?_spot h0
      subst hs
      refine ⟨b, o, rfl, World.block_lt_of_cell? w ⟨b, o, none⟩ (by simpa [Addr.add] using h0), fun j u hj => ?_⟩
      have hjl := (List.getElem?_eq_some_iff.1 hj).1
      rw [flatN_length] at hjl
      obtain ⟨d, hd⟩ : ∃ d, l[j / 2]? = some d := ⟨_, List.getElem?_eq_getElem (by omega)⟩
      obtain ⟨f0, f1⟩ := flatN_at l _ d hd
      obtain ⟨⟨q0, q1⟩, _⟩ := hlp _ d hd
      rw [add_plain] at q0 q1
      rcases (by omega : j = j / 2 * 2 ∨ j = j / 2 * 2 + 1) with e | e
      · rw [e] at hj ⊢
        rw [f0] at hj
        rw [← hj]
        exact q0
      · rw [e] at hj ⊢
        rw [f1] at hj
        rw [← hj]
        exact q1
    · obtain ⟨i, hi'⟩ := List.mem_iff_getElem?.1 hd
      exact (hlp i d hi').2.1
    · obtain ⟨hw, hel⟩ := slice_weights Try.underlying23 hR
      rw [show (Try.prog).bytesOf 39 = 32 by kernel_rfl] at hw
      simp at hw
      refine ⟨by omega, fun d hd => ?_⟩
      obtain ⟨i, hi'⟩ := List.mem_iff_getElem?.1 hd
      have hil := (List.getElem?_eq_some_iff.1 hi').1
      refine (hlp i d hi').2.2 R fun n hn => hel (.agg [D0 i, D1 i]) (List.mem_map.2 ⟨i, List.mem_range.2 hil, rfl⟩) n ?_
      simp only [DataW.weights, Try.underlying39, DataW.weightsEach, List.mem_append, List.map]
      exact .inr (.inl hn)
#print axioms points_of

/-- No slice of the trace's takes more than the form's own reach. -/
def TrFit (l : List Pm) : Prop := l.length ≤ 4398046510976 ∧ ∀ d ∈ l, d.evs.length ≤ 4398046510976 ∧ ∀ x ∈ d.evs, x.args.length ≤ 4398046510976
theorem points_fit {H : Type} {enc : TypeId × Value → H} {w : World} {fuel : Nat} {a : Option Addr} {len cap : Nat} {x : DataW H × List MemPlace}
    (h : DataW.trod enc Try.prog w 0 (fun _ => true) true fuel 23 [.slice a len cap] = some x) (hs : ∀ n ∈ x.1.weights Try.prog 23, n ≤ reachBytes) :
    ∃ l : List Pm, l.length = len ∧ TrRow w w.heap.size (.slice a len cap) l ∧ TrFit l := by
  obtain ⟨l, h1, h2, h3⟩ := points_of h
  obtain ⟨h4, h5⟩ := h3 _ hs
  unfold reachBytes at h4 h5
  refine ⟨l, h1, h2, by omega, fun d hd => ?_⟩
  obtain ⟨h6, h7⟩ := h5 d hd
  exact ⟨by omega, fun y hy => by have := h7 y hy; omega⟩
end Go.Proofs.Ytlmpicfhbpnpbaa
