/-
  A text, as the program reads it: sigtext.Parse.
-/
import Derived.Test.YtncjfnmkoiclbaaTextNext
namespace Go.Proofs.Ytncjfnmkoiclbaa
open Go.RowKit

section
variable {P : Program} {w : World} {ops : Array Oper} {rest : List Oper} {o : Oper} {a : Act} {Q : Exit → Act → World → Prop}
/-- append of a predicate behind a slice of the call's own. -/
theorem wpList_append_pred (hgd : o.guard = none) (s x : Operand) (t : TypeId) (ho : o.op = .call { callee := .builtin .append, args := #[s, x], argTypes := #[t, t] })
    (i : TypeInfo) (z : Value) (ht : P.underlying t = some (.slice 39)) (hi : P.info? 39 = some i) (hz : i.zero = some z) (hsize : i.size = 2) (hby : i.bytes = 40) (hzs : z.cells.size = 2)
    (n : Nat) (v : Value) (es : List Pd) (hs : a.eval s = v) (hown : OwnP w n v es) (ad : Addr) (c : Nat) (d : Pd) (hx : a.eval x = .slice (some ad) 1 c)
    (hc0 : w.cell? (ad.add 0) = some (.string (strOfNums d.p.name))) (hc1 : w.cell? (ad.add 1) = some (.slice d.A d.p.args.length d.c)) (hd : OwnA w n d) (hf : d.Fits) (hlen : es.length + 1 ≤ 1000000001) (hbase : n ≤ w.heap.size)
    (h : ∀ v' w', OwnP w' n v' (es ++ [d]) → w.grownBy w' v.ownBlock → wpList P ops Q rest (a.put o.dst v') w') : wpList P ops Q (o :: rest) a w := by
  refine wpList_plain hgd fun K hK => ?_
  obtain ⟨v', w', hr, h2, h3⟩ := run_append_pred (P := P) w t o.type i z ht hi hz hsize hby hzs n v es hown ad c d hc0 hc1 hd hf hlen hbase
  unfold Oper.wp execOp
  simp only [ho, resolve, invoke, builtin, Sem.run_bind, Sem.run_pure, Result.andThen_ok, List.map_toArray, List.map_cons, List.map_nil, hs, hx, hr]
  exact hK _ _ (h v' w' h2 h3)
end
theorem OwnA.base {w : World} {n m : Nat} {d : Pd} (h : OwnA w n d) (hm : m ≤ n) : OwnA w m d := own_base h hm
theorem OwnP.base {w : World} {n m : Nat} {v : Value} {es : List Pd} (h : OwnP w n v es) (hm : m ≤ n) : OwnP w m v es := ⟨own_base h.1 hm, fun d hd => ⟨(h.2 d hd).1.base hm, (h.2 d hd).2⟩⟩
/-- What a store into a block ahead of its base leaves. -/
theorem OwnP.put {w : World} {n m i : Nat} {v u : Value} {es : List Pd} (h : OwnP w n v es) (hm : m < n) : OwnP (w.setCell ⟨m, i, none⟩ u) n v es :=
  ⟨World.ownsRow.kept h.1 (grown_put w m i u) (.inr (own_low h.1 hm)), fun d hd => ⟨World.ownsRow.kept (h.2 d hd).1 (grown_put w m i u) (.inr (own_low (h.2 d hd).1 hm)), (h.2 d hd).2⟩⟩

/-- What Parse answers. -/
def ParseAns (n : Nat) (r : Rd) (e : Ending) (w' : World) : Prop := ∃ A c es, e = .returned (.tuple #[.slice A es.length c, .int .i64 r.e, .agg #[.int .i64 r.line, .int .i64 r.col]]) ∧ OwnP w' n (.slice A es.length c) es ∧ es.map (·.p) = r.l
theorem parse_bad {n : Nat} {r : Rd} {k : Int} {a b : Nat} {e : Ending} {w' : World} (hr : r = ⟨[], k, a, b⟩) (he : e = .returned (.tuple #[.slice none 0 0, .int .i64 k, .agg #[.int .i64 a, .int .i64 b]])) : ParseAns n r e w' := by
  subst hr
  exact ⟨none, 0, [], he, OwnP.nil _ _, rfl⟩
/-- How far a text is read. -/
structure ReadAt (xs r : List Int) (L : List Pr) : Prop where
  way : ∃ f, r.length < f ∧ parseP xs = parseF f (L.length + 1) L r
  bytes : ∀ x ∈ r, 0 ≤ x ∧ x < 256
  len : r.length ≤ xs.length
  few : L.length ≤ 64
theorem ReadAt.done {xs : List Int} {L : List Pr} (h : ReadAt xs [] L) : parseP xs = ⟨L, 0, 0, 0⟩ := by
  obtain ⟨f, hf, e⟩ := h.way
  obtain ⟨f, rfl⟩ : ∃ g, f = g + 1 := ⟨f - 1, by omega⟩
  rw [e, parseF, if_pos rfl]
theorem ReadAt.round {xs r : List Int} {L : List Pr} (h : ReadAt xs r L) (hr : r ≠ []) :
    (nextE L (cutB 10 r).1 ≠ 0 → parseP xs = ⟨[], nextE L (cutB 10 r).1, L.length + 1, 1⟩) ∧
    (nextE L (cutB 10 r).1 = 0 → (cutB 10 r).2.2 = false → parseP xs = ⟨[], 4, L.length + 1, (cutB 10 r).1.length + 1⟩) ∧
    (nextE L (cutB 10 r).1 = 0 → (cutB 10 r).2.2 = true → ReadAt xs (cutB 10 r).2.1 (L ++ [predR (cutB 10 r).1]) ∧ (cutB 10 r).2.1.length < r.length) := by
  obtain ⟨f, hf, e⟩ := h.way
  obtain ⟨f, rfl⟩ : ∃ g, f = g + 1 := ⟨f - 1, by omega⟩
  rw [parseF_step hr rfl] at e
  obtain ⟨l1, l2, l3⟩ := cutB_len 10 r
  refine ⟨fun h1 => by rw [e, if_pos h1], fun h1 h2 => by rw [e, if_neg (by rw [h1]; decide), if_pos h2], fun h1 h2 => ?_⟩
  have l4 := l2 h2
  have hl := h.len
  have h64 : L.length < 64 := by
    unfold nextE at h1
    split at h1
    · cases h1
    · split at h1
      · cases h1
      · split at h1
        · cases h1
        · omega
  refine ⟨⟨⟨f, by omega, ?_⟩, (cutB_bytes h.bytes).2, by omega, by simp; omega⟩, by omega⟩
  rw [e, if_neg (by rw [h1]; decide), if_neg (by rw [h2]; decide), List.length_append]
  rfl
theorem next_fits {L : List Pr} {s : List Int} (h : nextE L s = 0) (hb : ∀ x ∈ s, 0 ≤ x ∧ x < 256) (hl : s.length ≤ 1000000) (A : Option Addr) (c : Nat) : (⟨predR s, A, c⟩ : Pd).Fits ∧ (predR s).args.length ≤ 8 := by
  unfold nextE at h
  split at h
  · cases h
  · rename_i h1
    rw [Bool.not_eq_false] at h1
    split at h
    · cases h
    · split at h
      · cases h
      · rename_i h3
        obtain ⟨g1, g2⟩ := line_small (okLine_is h1)
        obtain ⟨_, g3, _⟩ := okLine_is h1
        exact ⟨⟨by unfold maxLen; simp only; omega, fun x hx => hb x (g2 x hx), fun x hx => by have := g3 x hx; omega⟩, by omega⟩

set_option maxRecDepth 100000 in
set_option maxHeartbeats 2000000 in
theorem parse_any (xs : List Int) (hb : ∀ x ∈ xs, 0 ≤ x ∧ x < 256) (hl : xs.length ≤ 1000000) (w : World) :
    Calls Try.prog 20 #[.string (strOfNums xs)] w fun e w' => ParseAns w.heap.size (parseP xs) e w' ∧ Below w.heap.size w w' := by
  obtain ⟨i1, hi1, hy0, hy1, hy2⟩ := info_parts Try.infoPred
  have HRA := Lib.hid (show ReadAt xs xs [] from ⟨⟨xs.length + 1, by omega, rfl⟩, hb, Nat.le_refl _, by simp⟩)
  obtain ⟨n, hn⟩ : ∃ n, w.heap.size = n := ⟨_, rfl⟩
  obtain ⟨wa, hwa⟩ : ∃ wa, w.alloc (.cells #[.int .i64 0, .int .i64 0] 43) = wa := ⟨_, rfl⟩
  have ha : Held wa n 43 #[.int .i64 0, .int .i64 0] := by rw [← hwa, ← hn]; exact heap_alloc_new w _
  have ba : Below n w wa := by rw [← hwa, ← hn]; exact (Below.refl _ _).alloc (Nat.le_refl _) _
  have HH := Lib.hid ha
  have HB := Lib.hid ba
  have HN := Lib.hid hn
  rw [hn]
  clear ha ba hn hb
  go_enter Try.func20, Try.ntmps20
  go_wp2_with fail
  rw [HN.out]
  go_loopg [0, 5, 6] xs.length (fun gk s v num wr => ∃ (r : List Int) (es : List Pd) (A : Option Addr) (c : Nat), s = .string (strOfNums r) ∧ v = .slice A es.length c ∧ num = .int .i64 ((es.length + 1 : Nat) : Int) ∧ Hid (r.length = gk) ∧ Hid (ReadAt xs r (es.map (·.p))) ∧ Hid (OwnP wr (n + 1) (.slice A es.length c) es) ∧ Hid (Held wr n 43 #[.int .i64 0, .int .i64 0]) ∧ Hid (Below n w wr))
  case atStart => exact ⟨xs, [], none, 0, rfl, rfl, by simp, Lib.hid rfl, HRA, Lib.hid (OwnP.nil _ _), HH, HB⟩
  case round =>
    obtain ⟨r, es, A, c, rfl, rfl, rfl, HGK, HRR, HOW, HHR, HBR⟩ := hrel
    by_cases hr0 : r = []
    · subst hr0
      rw [show strOfNums [] = ⟨#[]⟩ from rfl]
      have c0 := HHR.out.cell 0
      have c1 := HHR.out.cell 1
      have z0 := HHR.out.frozen 0
      have z1 := HHR.out.frozen 1
      have zl := HHR.out.lt
      simp at c0 c1
      go_wp2_with fail
      have hfin := (HHR.out.put 0 (.int .i64 0)).put 1 (.int .i64 0)
      have e0 := hfin.cell 0
      have e1 := hfin.cell 1
      simp at e0 e1
      exact bodyPost_ret (v := .tuple #[.slice A es.length c, .int .i64 0, .agg #[.int .i64 0, .int .i64 0]]) (by simp [results, Try.results20, go_sem, e0, e1]) rfl
        ⟨⟨A, c, es, by rw [HRR.out.done]; rfl, ((HOW.out.put (by omega)).put (by omega)).base (by omega), by rw [HRR.out.done]⟩, (HBR.out.setCell (p := ⟨n, 0, none⟩) (Nat.le_refl _) _).setCell (p := ⟨n, 1, none⟩) (Nat.le_refl _) _⟩
    · have hne : (strOfNums r).toList.isEmpty = false := by
        rw [str_empty]
        cases r with
        | nil => exact absurd rfl hr0
        | cons x r => rfl
      obtain ⟨p1, p2, p3⟩ := HRR.out.round hr0
      rw [List.length_map] at p1 p2
      have hrb := HRR.out.bytes
      have hrl := HRR.out.len
      have hfew := HRR.out.few
      rw [List.length_map] at hfew
      obtain ⟨l1, _, _⟩ := cutB_len 10 r
      have HCU := Lib.hid (fun W => cut_any 10 10 rfl r hrb (by omega) W)
      have hlb := (cutB_bytes (c := 10) hrb).1
      have HNX := Lib.hid (fun A0 cap0 W (h : PredRow W W.heap.size (.slice A0 es.length cap0) es) => next_any A0 cap0 es (cutB 10 r).1 hlb (by omega) W h)
      have HFI := Lib.hid (fun h => next_fits (L := es.map (·.p)) (s := (cutB 10 r).1) h hlb (by omega))
      have hll : (cutB 10 r).1.length ≤ 1000000 := by omega
      have P1 := Lib.hid p1
      have P2 := Lib.hid p2
      have P3 := Lib.hid p3
      clear p1 p2 p3 hrb hrl l1 hlb hr0
      have HRL := Lib.hid (show r.length ≤ r.length from Nat.le_refl _)
      generalize (cutB 10 r).1 = line at HCU HNX HFI hll P1 P2 P3
      generalize (cutB 10 r).2.1 = behind at HCU P1 P2 P3
      generalize (cutB 10 r).2.2 = ended at HCU P1 P2 P3
      go_wp2_with fail
      refine (HCU.out _).mono ?_
      rintro e w2 ⟨rfl, hb2⟩
      have HH2 := Lib.hid (HHR.out.below hb2 HHR.out.lt)
      have HB2 := Lib.hid (HBR.out.trans (hb2.mono (Nat.le_of_lt HHR.out.lt)))
      have HO2 := Lib.hid (HOW.out.below hb2)
      have HNC := Lib.hid (HNX.out A c w2 HO2.out.fresh.1)
      clear hb2 HCU HNX
      go_wp2_with fail
      refine HNC.out.mono ?_
      rintro e w3 ⟨hans, hb3⟩
      have hn2 : n + 1 ≤ w2.heap.size := HH2.out.lt
      have HH3 := Lib.hid (HH2.out.below hb3 HH2.out.lt)
      have HB3 := Lib.hid (HB2.out.trans (hb3.mono (Nat.le_of_lt HH2.out.lt)))
      have HO3 := Lib.hid (HO2.out.below hb3)
      clear hb3 HNC HH2 HB2 HO2 HHR HBR
      obtain ⟨hbad, hgood⟩ := hans
      have c0 := HH3.out.cell 0
      have c1 := HH3.out.cell 1
      have z0 := HH3.out.frozen 0
      have z1 := HH3.out.frozen 1
      have zl := HH3.out.lt
      simp at c0 c1
      by_cases hk : nextE (es.map (·.p)) line = 0
      · obtain ⟨A1, c1', he1, hown1⟩ := hgood hk
        subst he1
        have HFF := Lib.hid (HFI.out hk A1 c1')
        have P2' := Lib.hid (P2.out hk)
        have P3' := Lib.hid (P3.out hk)
        have HOA := Lib.hid (hown1.base hn2)
        clear hbad hgood hk P1 P2 P3 HFI hown1
        have hal := HFF.out.2
        have hlc : (predR line).args.length ≤ c1' ∧ c1' ≤ 9223372036854775807 := by
          obtain ⟨_, _, hv, q1, q2, _⟩ := VRow.of_own HOA.out
          injection hv with _ _ e3
          rw [List.length_map] at q1
          unfold maxLen at q2
          dsimp only at e3 q1
          omega
        cases ended with
        | false =>
          have hszl := strOfNums_size line
          have P4 := Lib.hid (P2'.out (by trivial))
          clear P2' P3' hal
          have hsn : ∀ u v o, Held (((w3.setCell ⟨n, 0, none⟩ u).setCell ⟨n, 1, none⟩ v).alloc o) n 43 #[u, v] := fun u v o => Held.below (by simpa using (HH3.out.put 0 u).put 1 v) ((Below.refl _ _).alloc (Nat.le_refl _) _) (by simpa [World.setCell] using HH3.out.lt)
          have HSN := Lib.hid hsn
          clear hsn
          go_wp2_with fail
          have hfin := HSN.out (.int .i64 ((es.length + 1 : Nat) : Int)) (.int .i64 ((line.length + 1 : Nat) : Int)) (.cells #[.string (strOfNums (predR line).name), .slice A1 (predR line).args.length c1'] 39)
          have e0 := hfin.cell 0
          have e1 := hfin.cell 1
          simp at e0 e1
          exact bodyPost_ret (v := .tuple #[.slice none 0 0, .int .i64 4, .agg #[.int .i64 ((es.length + 1 : Nat) : Int), .int .i64 ((line.length + 1 : Nat) : Int)]]) (by simp [results, Try.results20, go_sem, e0, e1]) rfl
            ⟨parse_bad (P4.out) rfl, ((HB3.out.setCell (p := ⟨n, 0, none⟩) (Nat.le_refl _) _).setCell (p := ⟨n, 1, none⟩) (Nat.le_refl _) _).alloc (by simpa [World.setCell] using Nat.le_of_lt HH3.out.lt) _⟩
        | true =>
          obtain ⟨q3, q4⟩ := P3'.out (by trivial)
          have HQ3 := Lib.hid q3
          have HQ4 := Lib.hid q4
          clear q3 q4 P2' P3'
          obtain ⟨d, hd⟩ : ∃ d : Pd, (⟨predR line, A1, c1'⟩ : Pd) = d := ⟨_, rfl⟩
          have hd1 : (predR line).name = d.p.name := by rw [← hd]
          have hd2 : (predR line).args.length = d.p.args.length := by rw [← hd]
          have hd3 : A1 = d.A := by rw [← hd]
          have hd4 : c1' = d.c := by rw [← hd]
          rw [hd] at HFF HOA
          rw [show predR line = d.p by rw [← hd]] at HQ3
          rw [hd1, hd2, hd3, hd4]
          have HES := Lib.hid (show es.map (·.p) ++ [d.p] = (es ++ [d]).map (·.p) by simp)
          rw [hd2, hd4] at hlc
          clear hd hd1 hd2 hd3 hd4 hal
          obtain ⟨w4, hw4⟩ : ∃ w4, w3.alloc (.cells #[.string (strOfNums d.p.name), .slice d.A d.p.args.length d.c] 39) = w4 := ⟨_, rfl⟩
          have h4 : Held w4 w3.heap.size 39 #[.string (strOfNums d.p.name), .slice d.A d.p.args.length d.c] := by rw [← hw4]; exact heap_alloc_new w3 _
          have b4 : Below w3.heap.size w3 w4 := by rw [← hw4]; exact (Below.refl _ _).alloc (Nat.le_refl _) _
          have HH4 := Lib.hid (HH3.out.below b4 HH3.out.lt)
          have HB4 := Lib.hid (HB3.out.trans (b4.mono (Nat.le_of_lt HH3.out.lt)))
          have HO4 := Lib.hid (HO3.out.below b4)
          have HA4 := Lib.hid (HOA.out.below b4)
          have hn4 := HH4.out.lt
          have d0 := h4.cell 0
          have d1 := h4.cell 1
          simp at d0 d1
          clear h4 b4 c0 c1 z0 z1 zl
          go_wp2_with (at_builtin; refine wpList_append_pred (by rfl) (.tmp 40) (.tmp 42) 22 (by rfl) i1 _ Try.underlying22 hi1 hy0 hy1 hy2 rfl (n + 1) (.slice A es.length c) es (by rfl) (HO4.out.below ((Below.refl _ _).alloc (Nat.le_refl _) _)) ⟨w4.heap.size, 0, none⟩ 1 d (by rfl) (by go_simp) (by go_simp) (HA4.out.below ((Below.refl _ _).alloc (Nat.le_refl _) _)) HFF.out.1 (by omega) (by simp; omega) ?_; intro v5 w5 hO5 hg5)
          have hlow : ∀ j, (Value.slice A es.length c).ownBlock = some j → n + 1 ≤ j := fun j e => (World.ownsRow.lt HO4.out.1 j e).1
          have b5 := (HB4.out.alloc (by omega) (.cells #[.string (strOfNums d.p.name), .slice d.A d.p.args.length d.c] 39)).grown hg5 (by simp; omega) (fun j e => by have := hlow j e; omega)
          have hh5 : Held w5 n 43 #[.int .i64 0, .int .i64 0] := (HH4.out.below ((Below.refl _ _).alloc (Nat.le_refl _) (.cells #[.string (strOfNums d.p.name), .slice d.A d.p.args.length d.c] 39)) HH4.out.lt).grown hg5 (fun e => by have := hlow n e.symm; omega)
          obtain ⟨A5, c5, ev, _, _⟩ := hO5.form
          have HO5 := Lib.hid hO5
          have HB5 := Lib.hid b5
          have HH5 := Lib.hid hh5
          have HEL := Lib.hid (show (es ++ [d]).length = es.length + 1 by simp)
          rw [HES.out] at HQ3
          subst ev
          clear hO5 hg5 hlow b5 hh5 d0 d1
          generalize es ++ [d] = es5 at HO5 HEL HQ3 ⊢
          go_wp2_with fail
          go_roundg behind.length
          case measure => have := HGK.out; have := HQ4.out; omega
          case rel => exact ⟨behind, es5, A5, c5, rfl, rfl, by rw [HEL.out]; go_num, Lib.hid rfl, HQ3, HO5, HH5, HB5⟩
      · have he1 := hbad hk
        subst he1
        have P4 := Lib.hid (P1.out hk)
        clear hbad hgood P1 P2 P3 HFI
        generalize nextE (es.map (·.p)) line = k at hk P4
        have hk1 : (k != 0) = true := bne_iff_ne.2 hk
        have hk2 : (k == 0) = false := beq_eq_false_iff_ne.2 hk
        clear hk
        have hsn : ∀ u v o, Held (((w3.setCell ⟨n, 0, none⟩ u).setCell ⟨n, 1, none⟩ v).alloc o) n 43 #[u, v] := fun u v o => Held.below (by simpa using (HH3.out.put 0 u).put 1 v) ((Below.refl _ _).alloc (Nat.le_refl _) _) (by simpa [World.setCell] using HH3.out.lt)
        have HSN := Lib.hid hsn
        clear hsn
        go_wp2_with fail
        have hfin := HSN.out (.int .i64 ((es.length + 1 : Nat) : Int)) (.int .i64 ((1 : Nat) : Int)) (.cells #[.string ⟨#[]⟩, .slice none 0 0] 39)
        have e0 := hfin.cell 0
        have e1 := hfin.cell 1
        simp at e0 e1
        exact bodyPost_ret (v := .tuple #[.slice none 0 0, .int .i64 k, .agg #[.int .i64 ((es.length + 1 : Nat) : Int), .int .i64 ((1 : Nat) : Int)]]) (by simp [results, Try.results20, go_sem, e0, e1]) rfl
          ⟨parse_bad (P4.out) rfl, ((HB3.out.setCell (p := ⟨n, 0, none⟩) (Nat.le_refl _) _).setCell (p := ⟨n, 1, none⟩) (Nat.le_refl _) _).alloc (by simpa [World.setCell] using Nat.le_of_lt HH3.out.lt) _⟩
#print axioms parse_any
end Go.Proofs.Ytncjfnmkoiclbaa
