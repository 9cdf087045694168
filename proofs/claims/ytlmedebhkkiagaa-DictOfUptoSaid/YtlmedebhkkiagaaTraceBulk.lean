/-
  What the bulk of a trace that came in bounds: how many arguments it has, how many events each point has. No function of the program here.
-/
import Derived.Test.YtlmedebhkkiagaaTraceIn
import Derived.Test.YtlmedebhkkiagaaPlainDict
import Derived.Test.YtlmedebhkkiagaaRows
namespace Go.Proofs.Ytlmedebhkkiagaa
open Go.RowKit Go.ChangeShapes Go.WideShapes

theorem bulk_one {H : Type} (d : DataW H) : 1 ≤ Rows.uptoBulk d := by
  cases d with
  | lit l => cases l <;> simp [Rows.uptoBulk]
  | _ => simp [Rows.uptoBulk]
theorem bulk_range' {H α : Type} (f : α → Nat) (g : Nat → DataW H) : ∀ (l : List α) (k : Nat), (∀ i a, l[i]? = some a → f a ≤ Rows.uptoBulk (g (k + i))) → (l.map f).sum ≤ Rows.uptoBulkAll ((List.range' k l.length).map g)
  | [], _, _ => by simp [Rows.uptoBulkAll]
  | a :: l, k, h => by
    have h1 := h 0 a rfl
    have h2 := bulk_range' f g l (k + 1) fun i b hb => by
      have := h (i + 1) b (by simpa using hb)
      rwa [show k + 1 + i = k + (i + 1) by omega]
    rw [List.length_cons, List.range'_succ]
    simp only [List.map_cons, List.sum_cons, Rows.uptoBulkAll]
    rw [Nat.add_zero] at h1
    omega
theorem bulk_range {H α : Type} (f : α → Nat) (g : Nat → DataW H) (l : List α) (h : ∀ i a, l[i]? = some a → f a ≤ Rows.uptoBulk (g i)) : (l.map f).sum ≤ Rows.uptoBulkAll ((List.range l.length).map g) := by
  rw [List.range_eq_range']
  exact bulk_range' f g l 0 fun i a ha => by rw [Nat.zero_add]; exact h i a ha
theorem bulk_elems {H : Type} (es sp : List (DataW H)) : Rows.uptoBulkAll es ≤ Rows.uptoBulk (.slice es sp) := by
  simp only [Rows.uptoBulk]
  omega
theorem bulk_second {H : Type} (a b : DataW H) : Rows.uptoBulk b ≤ Rows.uptoBulk (.agg [a, b]) := by
  simp only [Rows.uptoBulk, Rows.uptoBulkAll]
  omega
theorem bulk_mem {H : Type} {d : DataW H} : ∀ {l : List (DataW H)}, d ∈ l → Rows.uptoBulk d ≤ Rows.uptoBulkAll l
  | [], h => by simp at h
  | c :: l, h => by
    simp only [Rows.uptoBulkAll]
    rcases List.mem_cons.1 h with rfl | h
    · omega
    · have := bulk_mem h
      omega
theorem bulk_count {H : Type} : ∀ l : List (DataW H), l.length ≤ Rows.uptoBulkAll l
  | [] => Nat.zero_le _
  | d :: l => by
    have h1 := bulk_one d
    have h2 := bulk_count l
    simp only [Rows.uptoBulkAll, List.length_cons]
    omega
theorem bulk_len {H : Type} (n : Nat) (g : Nat → DataW H) (sp : List (DataW H)) : n ≤ Rows.uptoBulk (.slice ((List.range n).map g) sp) := by
  have h := bulk_count ((List.range n).map g)
  rw [List.length_map, List.length_range] at h
  exact Nat.le_trans h (bulk_elems _ _)
theorem small_le {H : Type} {l : List (DataW H)} {d : DataW H} (hk : Rows.uptoSmall H l = true) (h : d ∈ l) : Rows.uptoBulk d ≤ 1048576 := Nat.le_trans (bulk_mem h) (of_decide_eq_true hk)
theorem nA_sum : ∀ l : List Em, nA l = (l.map (fun e => e.args.length)).sum
  | [] => rfl
  | a :: l => by
    rw [List.map_cons, List.sum_cons, ← nA_sum l]
    rfl
theorem nT_sum : ∀ l : List Pm, nT l = (l.map (fun p => nA p.evs)).sum
  | [] => rfl
  | a :: l => by
    rw [List.map_cons, List.sum_cons, ← nT_sum l]
    rfl

set_option maxRecDepth 100000 in
theorem args_bulk {H : Type} {enc : TypeId × Value → H} {w : World} {fuel : Nat} {a : Option Addr} {len cap : Nat} {x : DataW H × List MemPlace}
    (h : DataW.trod enc Try.prog w 0 (fun _ => true) true fuel 40 [.slice a len cap] = some x) :
    ∃ l : List Ag, l.length = len ∧ GRow w w.heap.size (.slice a len cap) l ∧ len ≤ Rows.uptoBulk x.1 := by
  rcases Go.Deep.open_slice Try.underlying40 h with ⟨hcs, _⟩ | ⟨ad, len', cap', m, n, D, Pl, hcs, hb, hl, hm, hmm, rfl, hi⟩
  · simp at hcs
    obtain ⟨rfl, rfl, rfl⟩ := hcs
    exact ⟨[], rfl, ⟨ERow.nil _ _, by simp⟩, Nat.zero_le _⟩
  · simp at hcs
    obtain ⟨rfl, rfl, rfl⟩ := hcs
    have hlm : len ≤ m := by rw [hmm]; split <;> omega
    have ce : (Try.prog).cellsOf 68 = 3 := by kernel_rfl
    have c3 : (Try.prog).cellsOf 3 = 1 := by kernel_rfl
    have c2 : (Try.prog).cellsOf 2 = 1 := by kernel_rfl
    have c9 : (Try.prog).cellsOf 9 = 1 := by kernel_rfl
    have each : ∀ i, i < len → ∃ d : Ag, (w.cell? (ad.add (i * 3)) = some (.int .i64 d.t) ∧ w.cell? (ad.add (i * 3 + 1)) = some (.int .i64 d.n) ∧ w.cell? (ad.add (i * 3 + 2)) = some (.string (strOfNums d.s))) ∧ d.Fits := by
      intro i hlt
      obtain ⟨cs', h1, h2⟩ := hi i (by omega)
      rw [ce] at h1
      obtain ⟨_, hlen, hcell⟩ := World.cells?_some h1
      obtain ⟨xs, k, hk, hxy, _, hxl, hf⟩ := DataW.trod_struct Try.underlying68 h2
      match xs, hxl, cs', hlen with
      | [y0, y1, y2], _, [v0, v1, v2], _ =>
        have g0 := hf 0 _ rfl
        have g1 := hf 1 _ rfl
        have g2 := hf 2 _ rfl
        simp [c3, c2, c9] at g0 g1 g2
        have e0 := hcell 0 (by omega)
        have e1 := hcell 1 (by omega)
        have e2 := hcell 2 (by omega)
        rw [Go.Deep.add_add] at e0 e1 e2
        obtain ⟨n0, u0, _, w0⟩ := DataW.trod_int (k := .i64) Try.underlying3 g0
        obtain ⟨n1, u1, _, w1⟩ := DataW.trod_int (k := .i64) Try.underlying2 g1
        obtain ⟨s0, u2, _, hsz⟩ := DataW.trod_string Try.underlying9 g2
        injection u0 with u0
        injection u1 with u1
        injection u2 with u2
        obtain ⟨nm, rfl, hnl, hnb⟩ := text_of s0
        subst u0 u1 u2
        exact ⟨⟨n0, n1, nm⟩, ⟨by simpa using e0, by simpa using e1, by simpa using e2⟩, by rw [hnl]; exact hsz, hnb, bounds_i64 w0, bounds_i64 w1⟩
    obtain ⟨l, hll, hlp⟩ := list_of each
    subst hll
    refine ⟨l, rfl, ⟨⟨some ad, cap, rfl, hl, hm, by simp, fun hn => ?_⟩, fun d hd => ?_⟩, ?_⟩
    · obtain ⟨d0, hd0⟩ : ∃ d, l[0]? = some d := ⟨_, List.getElem?_eq_getElem hn⟩
      have h0 := (hlp 0 d0 hd0).1.1
      obtain ⟨b, o, sp⟩ := ad
      have hs : sp = none := by simpa [Addr.add] using World.cell?_spot h0
      subst hs
      refine ⟨b, o, rfl, World.block_lt_of_cell? w ⟨b, o, none⟩ (by simpa [Addr.add] using h0), fun j u hj => ?_⟩
      have hjl := (List.getElem?_eq_some_iff.1 hj).1
      rw [flatG_length] at hjl
      obtain ⟨d, hd⟩ : ∃ d, l[j / 3]? = some d := ⟨_, List.getElem?_eq_getElem (by omega)⟩
      obtain ⟨f0, f1, f2⟩ := flatG_at l _ d hd
      obtain ⟨⟨q0, q1, q2⟩, _⟩ := hlp _ d hd
      rw [add_plain] at q0 q1 q2
      rcases (by omega : j = j / 3 * 3 ∨ j = j / 3 * 3 + 1 ∨ j = j / 3 * 3 + 2) with e | e | e
      · rw [e] at hj ⊢
        rw [f0] at hj
        rw [← hj]
        exact q0
      · rw [e] at hj ⊢
        rw [f1] at hj
        rw [← hj]
        exact q1
      · rw [e] at hj ⊢
        rw [f2] at hj
        rw [← hj]
        exact q2
    · obtain ⟨i, hi'⟩ := List.mem_iff_getElem?.1 hd
      exact (hlp i d hi').2
    · exact bulk_len _ _ _

set_option maxRecDepth 100000 in
theorem events_bulk {H : Type} {enc : TypeId × Value → H} {w : World} {fuel : Nat} {a : Option Addr} {len cap : Nat} {x : DataW H × List MemPlace}
    (h : DataW.trod enc Try.prog w 0 (fun _ => true) true fuel 37 [.slice a len cap] = some x) :
    ∃ l : List Em, l.length = len ∧ EvRow w w.heap.size (.slice a len cap) l ∧ len ≤ Rows.uptoBulk x.1 ∧ nA l ≤ Rows.uptoBulk x.1 := by
  rcases Go.Deep.open_slice_pairs Try.underlying37 Try.underlying42 (by kernel_rfl) rfl rfl (by kernel_rfl) (by kernel_rfl) h with ⟨hcs, _⟩ | ⟨ad, len', cap', m, n, V0, V1, D0, D1, P0, P1, hcs, hb, hl, hm, hmm, rfl, hi⟩
  · simp at hcs
    obtain ⟨rfl, rfl, rfl⟩ := hcs
    exact ⟨[], rfl, ⟨ERow.nil _ _, by simp⟩, Nat.zero_le _, Nat.zero_le _⟩
  · simp at hcs
    obtain ⟨rfl, rfl, rfl⟩ := hcs
    have hlm : len ≤ m := by rw [hmm]; split <;> omega
    have each : ∀ i, i < len → ∃ d : Em, (w.cell? (ad.add (i * 2)) = some (.int .i64 d.p) ∧ w.cell? (ad.add (i * 2 + 1)) = some (.slice d.A d.args.length d.c)) ∧ d.Ok w w.heap.size ∧ d.args.length ≤ Rows.uptoBulk (D1 i) := by
      intro i hlt
      obtain ⟨g0, g1, t0, t1⟩ := hi i (by omega)
      obtain ⟨y0, e0, _, w0⟩ := DataW.trod_int (k := .i64) Try.underlying3 t0
      injection e0 with e0
      obtain ⟨A, ln, cp, ev⟩ : ∃ a0 len0 cap0, V1 i = .slice a0 len0 cap0 := by
        rcases Go.Deep.open_slice Try.underlying40 t1 with ⟨hcs, _⟩ | ⟨x, l, c, _, _, _, _, hcs, _⟩
        · simp at hcs
          exact ⟨none, 0, 0, hcs⟩
        · simp at hcs
          exact ⟨some x, l, c, hcs⟩
      rw [ev] at t1 g1
      rw [e0] at g0
      obtain ⟨zs, rfl, hz, hR⟩ := args_bulk t1
      exact ⟨⟨y0, zs, A, cp⟩, ⟨g0, g1⟩, ⟨hz, bounds_i64 w0⟩, hR⟩
    obtain ⟨l, hll, hlp⟩ := list_of each
    subst hll
    refine ⟨l, rfl, ⟨⟨some ad, cap, rfl, hl, hm, by simp, fun hn => ?_⟩, fun d hd => ?_⟩, ?_⟩
    · obtain ⟨d0, hd0⟩ : ∃ d, l[0]? = some d := ⟨_, List.getElem?_eq_getElem hn⟩
      have h0 := (hlp 0 d0 hd0).1.1
      obtain ⟨b, o, sp⟩ := ad
      have hs : sp = none := by simpa [Addr.add] using World.cell?_spot h0
      subst hs
      refine ⟨b, o, rfl, World.block_lt_of_cell? w ⟨b, o, none⟩ (by simpa [Addr.add] using h0), fun j u hj => ?_⟩
      have hjl := (List.getElem?_eq_some_iff.1 hj).1
      rw [flatE_length] at hjl
      obtain ⟨d, hd⟩ : ∃ d, l[j / 2]? = some d := ⟨_, List.getElem?_eq_getElem (by omega)⟩
      obtain ⟨f0, f1⟩ := flatE_at l _ d hd
      obtain ⟨⟨q0, q1⟩, _⟩ := hlp _ d hd
      rw [add_plain] at q0 q1
      rcases (by omega : j = j / 2 * 2 ∨ j = j / 2 * 2 + 1) with e | e
      · rw [e] at hj ⊢
        rw [f0] at hj
        rw [← hj]
        exact q0
      · rw [e] at hj ⊢
        rw [f1] at hj
        rw [← hj]
        exact q1
    · obtain ⟨i, hi'⟩ := List.mem_iff_getElem?.1 hd
      exact (hlp i d hi').2.1
    · refine ⟨bulk_len _ _ _, ?_⟩
      rw [nA_sum]
      refine Nat.le_trans (bulk_range (fun e : Em => e.args.length) (fun i => .agg [D0 i, D1 i]) l (fun i d hd => ?_)) (bulk_elems _ _)
      exact Nat.le_trans (hlp i d hd).2.2 (bulk_second _ _)
#print axioms events_bulk

set_option maxRecDepth 100000 in
theorem points_bulk {H : Type} {enc : TypeId × Value → H} {w : World} {fuel : Nat} {a : Option Addr} {len cap : Nat} {x : DataW H × List MemPlace}
    (h : DataW.trod enc Try.prog w 0 (fun _ => true) true fuel 23 [.slice a len cap] = some x) :
    ∃ l : List Pm, l.length = len ∧ TrRow w w.heap.size (.slice a len cap) l ∧ nT l ≤ Rows.uptoBulk x.1 ∧ ∀ d ∈ l, d.evs.length ≤ Rows.uptoBulk x.1 := by
  rcases Go.Deep.open_slice_pairs Try.underlying23 Try.underlying39 (by kernel_rfl) rfl rfl (by kernel_rfl) (by kernel_rfl) h with ⟨hcs, _⟩ | ⟨ad, len', cap', m, n, V0, V1, D0, D1, P0, P1, hcs, hb, hl, hm, hmm, rfl, hi⟩
  · simp at hcs
    obtain ⟨rfl, rfl, rfl⟩ := hcs
    exact ⟨[], rfl, ⟨ERow.nil _ _, by simp⟩, Nat.zero_le _, fun d hd => by simp at hd⟩
  · simp at hcs
    obtain ⟨rfl, rfl, rfl⟩ := hcs
    have hlm : len ≤ m := by rw [hmm]; split <;> omega
    have each : ∀ i, i < len → ∃ d : Pm, (w.cell? (ad.add (i * 2)) = some (.int .u64 d.tm) ∧ w.cell? (ad.add (i * 2 + 1)) = some (.slice d.A d.evs.length d.c)) ∧ d.Ok w w.heap.size ∧ d.evs.length ≤ Rows.uptoBulk (D1 i) ∧ nA d.evs ≤ Rows.uptoBulk (D1 i) := by
      intro i hlt
      obtain ⟨g0, g1, t0, t1⟩ := hi i (by omega)
      obtain ⟨y0, e0, _, w0⟩ := DataW.trod_int (k := .u64) Try.underlying36 t0
      injection e0 with e0
      obtain ⟨A, ln, cp, ev⟩ : ∃ a0 len0 cap0, V1 i = .slice a0 len0 cap0 := by
        rcases Go.Deep.open_slice Try.underlying37 t1 with ⟨hcs, _⟩ | ⟨x, l, c, _, _, _, _, hcs, _⟩
        · simp at hcs
          exact ⟨none, 0, 0, hcs⟩
        · simp at hcs
          exact ⟨some x, l, c, hcs⟩
      rw [ev] at t1 g1
      rw [e0] at g0
      obtain ⟨zs, rfl, hz, hR⟩ := events_bulk t1
      exact ⟨⟨y0, zs, A, cp⟩, ⟨g0, g1⟩, ⟨hz, by have := bounds_u64 w0; unfold Pm.Fits; dsimp only; omega⟩, hR⟩
    obtain ⟨l, hll, hlp⟩ := list_of each
    subst hll
    refine ⟨l, rfl, ⟨⟨some ad, cap, rfl, hl, hm, by simp, fun hn => ?_⟩, fun d hd => ?_⟩, ?_⟩
    · obtain ⟨d0, hd0⟩ : ∃ d, l[0]? = some d := ⟨_, List.getElem?_eq_getElem hn⟩
      have h0 := (hlp 0 d0 hd0).1.1
      obtain ⟨b, o, sp⟩ := ad
      have hs : sp = none := by simpa [Addr.add] using World.cell?_spot h0
      subst hs
      refine ⟨b, o, rfl, World.block_lt_of_cell? w ⟨b, o, none⟩ (by simpa [Addr.add] using h0), fun j u hj => ?_⟩
      have hjl := (List.getElem?_eq_some_iff.1 hj).1
      rw [flatN_length] at hjl
      obtain ⟨d, hd⟩ : ∃ d, l[j / 2]? = some d := ⟨_, List.getElem?_eq_getElem (by omega)⟩
      obtain ⟨f0, f1⟩ := flatN_at l _ d hd
      obtain ⟨⟨q0, q1⟩, _⟩ := hlp _ d hd
      rw [add_plain] at q0 q1
      rcases (by omega : j = j / 2 * 2 ∨ j = j / 2 * 2 + 1) with e | e
      · rw [e] at hj ⊢
        rw [f0] at hj
        rw [← hj]
        exact q0
      · rw [e] at hj ⊢
        rw [f1] at hj
        rw [← hj]
        exact q1
    · obtain ⟨i, hi'⟩ := List.mem_iff_getElem?.1 hd
      exact (hlp i d hi').2.1
    · refine ⟨?_, fun d hd => ?_⟩
      · rw [nT_sum]
        refine Nat.le_trans (bulk_range (fun e : Pm => nA e.evs) (fun i => .agg [D0 i, D1 i]) l (fun i d hd => ?_)) (bulk_elems _ _)
        exact Nat.le_trans (hlp i d hd).2.2.2 (bulk_second _ _)
      · obtain ⟨i, hi'⟩ := List.mem_iff_getElem?.1 hd
        have hil := (List.getElem?_eq_some_iff.1 hi').1
        exact Nat.le_trans (Nat.le_trans (hlp i d hi').2.2.1 (bulk_second (D0 i) (D1 i))) (Nat.le_trans (bulk_mem (List.mem_map.2 ⟨i, List.mem_range.2 hil, rfl⟩)) (bulk_elems _ _))
#print axioms points_bulk

end Go.Proofs.Ytlmedebhkkiagaa
