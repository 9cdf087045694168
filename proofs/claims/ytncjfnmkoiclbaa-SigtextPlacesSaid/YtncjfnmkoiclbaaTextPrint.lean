/-
  A predicate's line and a signature's text, as the program answers them: Line, Print of sigtext.
-/
import Derived.Test.YtncjfnmkoiclbaaTextJoin
import Derived.Test.YtncjfnmkoiclbaaSigCode
namespace Go.Proofs.Ytncjfnmkoiclbaa
open Go.RowKit

theorem row_one {w : World} {g : Nat} {d : Pd} (h : Held w g 39 #[.string (strOfNums d.p.name), .slice d.A d.p.args.length d.c]) (hr : IRow w w.heap.size (.slice d.A d.p.args.length d.c) d.p.args) (hf : d.Fits) :
    PredRow w w.heap.size (.slice (some ⟨g, 0, none⟩) [d].length 1) [d] := by
  refine ⟨_, _, rfl, Nat.le_refl _, by unfold maxLen; omega, by simp, fun _ => ⟨g, 0, rfl, h.lt, fun i e he => ?_⟩, fun e he => ?_⟩
  · match i with
    | 0 =>
      simp only [List.getElem?_cons_zero, Option.some.injEq] at he
      subst he
      exact ⟨h.cell 0, h.cell 1⟩
    | i + 1 => simp at he
  · obtain rfl : e = d := by simpa using he
    exact ⟨hr, hf⟩
/-- What Line answers. -/
def lineA (p : Pr) : List Int := if checkP [p] = 0 then lineP p else []

set_option maxRecDepth 100000 in
set_option maxHeartbeats 1000000 in
theorem sline_any (d : Pd) (w : World) (hrow : IRow w w.heap.size (.slice d.A d.p.args.length d.c) d.p.args) (hf : d.Fits) :
    Calls Try.prog 18 #[.agg #[.string (strOfNums d.p.name), .slice d.A d.p.args.length d.c]] w fun e w' => e = .returned (.tuple #[.string (strOfNums (lineA d.p)), .int .i64 (checkP [d.p])]) ∧ Below w.heap.size w w' := by
  obtain ⟨_, hc1, hc2⟩ : ∃ _ : True, d.p.args.length ≤ d.c ∧ d.c ≤ 9223372036854775807 := by
    obtain ⟨A', c', hv, q1, q2, _⟩ := hrow
    injection hv with _ _ e3
    rw [List.length_map] at q1
    unfold maxLen at q2
    exact ⟨trivial, by omega, by omega⟩
  obtain ⟨n, hn⟩ : ∃ n, w.heap.size = n := ⟨_, rfl⟩
  obtain ⟨w1, hw1⟩ : ∃ w1, w.alloc (.cells #[.string (strOfNums d.p.name), .slice d.A d.p.args.length d.c] 39) = w1 := ⟨_, rfl⟩
  have h1 : Held w1 n 39 #[.string (strOfNums d.p.name), .slice d.A d.p.args.length d.c] := by rw [← hw1, ← hn]; exact heap_alloc_new w _
  have b1 : Below n w w1 := by rw [← hw1, ← hn]; exact (Below.refl _ _).alloc (Nat.le_refl _) _
  have s1 : w1.heap.size = n + 1 := by rw [← hw1, ← hn]; simp
  obtain ⟨w2, hw2⟩ : ∃ w2, w1.alloc (.cells #[.string (strOfNums d.p.name), .slice d.A d.p.args.length d.c] 39) = w2 := ⟨_, rfl⟩
  have h2 : Held w2 (n + 1) 39 #[.string (strOfNums d.p.name), .slice d.A d.p.args.length d.c] := by rw [← hw2, ← s1]; exact heap_alloc_new w1 _
  have b2 : Below (n + 1) w1 w2 := by rw [← hw2, ← s1]; exact (Below.refl _ _).alloc (Nat.le_refl _) _
  rw [hn] at hrow ⊢
  have hr2 : IRow w2 w2.heap.size (.slice d.A d.p.args.length d.c) d.p.args := ((hrow.below b1).below (b2.mono (Nat.le_succ _))).more (by have := h2.lt; omega)
  have HH2 := Lib.hid (h1.below b2 (Nat.lt_succ_self _))
  have HB2 := Lib.hid (b1.trans (b2.mono (Nat.le_succ _)))
  have HCK := Lib.hid (scheck_any (some ⟨n + 1, 0, none⟩) 1 [d] w2 (row_one h2 hr2 hf))
  rw [List.map_cons, List.map_nil] at HCK
  have HROW := Lib.hid hrow
  have c0 := h1.cell 0
  have c1 := h1.cell 1
  have cl := h1.lt
  simp at c0 c1
  have HFT : checkP [d.p] = 0 → d.p.name.length ≤ 1000000 ∧ d.p.args.length ≤ 1000000 := fun h => by
    have := (checkP_small h).2 d.p (by simp)
    omega
  have HFT2 := Lib.hid HFT
  have hz : ∀ k, checkP [d.p] = k → lineA d.p = if k = 0 then lineP d.p else [] := fun k h => by unfold lineA; rw [h]
  have HZ := Lib.hid hz
  have HS1 := Lib.hid s1
  clear h1 b1 h2 b2 hrow hr2 hf HFT hz
  generalize hk : checkP [d.p] = k at HCK HFT2 HZ ⊢
  clear hk
  go_enter Try.func18, Try.ntmps18
  go_wp2_with fail
  clear hn s1 hw1 hw2 c0 c1 cl
  refine HCK.out.mono ?_
  rintro e w3 ⟨rfl, hb3⟩
  have HH3 := Lib.hid (HH2.out.below hb3 HH2.out.lt)
  have HB3 := Lib.hid (HB2.out.trans (hb3.mono (Nat.le_of_lt HH2.out.lt)))
  clear hb3
  have c0 := HH3.out.cell 0
  have c1 := HH3.out.cell 1
  have cl := HH3.out.lt
  simp at c0 c1
  by_cases hk : k = 0
  · subst hk
    have HLA := Lib.hid (show lineA d.p = lineP d.p by rw [HZ.out 0 rfl]; rfl)
    obtain ⟨f1, f2⟩ := HFT2.out rfl
    have HLN := Lib.hid (line_any d.p.name d.p.args d.A d.c f1 f2 w3 ((HROW.out.below HB3.out).more (by omega)))
    change Hid (Calls _ _ _ _ (fun e w' => e = .returned (.string (strOfNums (lineP d.p))) ∧ Below w3.heap.size w3 w')) at HLN
    clear HFT2 HZ f1 f2
    go_wp2_with fail
    refine HLN.out.mono ?_
    rintro e w4 ⟨rfl, hb4⟩
    go_wp2_with fail
    go_ret2
    exact ⟨by rw [HLA.out]; rfl, HB3.out.trans (hb4.mono (by omega))⟩
  · have hk1 : (k != 0) = true := bne_iff_ne.2 hk
    have HLA := Lib.hid (show lineA d.p = [] by rw [HZ.out k rfl, if_neg hk])
    clear HFT2 HZ hk
    go_wp2_with fail
    go_ret2
    exact ⟨by rw [HLA.out]; rfl, HB3.out⟩

/-! The builder. -/
theorem isB_below {T e : TypeId} {B b : Nat} {bs : List Value} {w w' : World} (h : Lib.IsBuilder T e B b bs w) (hb : Below w.heap.size w w') : Lib.IsBuilder T e B b bs w' := by
  have key : ∀ p, Lib.BuilderAt T e B b p bs w → Lib.BuilderAt T e B b p bs w' := fun p hp => by
    have hlt := hp.lt
    obtain ⟨q1, v, q2, q3, q4⟩ := hp
    exact ⟨q1, v, (hb.block b hlt).trans q2, own_below q3 hb, q4⟩
  rcases h with h | h
  · exact .inl (key _ h)
  · exact .inr (key _ h)
theorem isB_lt {T e : TypeId} {B b : Nat} {bs : List Value} {w : World} (h : Lib.IsBuilder T e B b bs w) : b < w.heap.size := by
  rcases h with h | h <;> exact h.lt
theorem strCells_append (X s : List Int) : Lib.strCells (strOfNums X) ++ Lib.strCells (strOfNums s) = Lib.strCells (strOfNums (X ++ s)) := by simp [Lib.strCells, strOfNums]
theorem write_any (B b : Nat) (X s : List Int) (w : World) (h : Lib.IsBuilder 61 5 B b (Lib.strCells (strOfNums X)) w) (hl : X.length + s.length ≤ 100000000) (hB : B ≤ w.heap.size) :
    Calls Try.prog 29 #[.pointer (some ⟨b, 0, none⟩), .string (strOfNums s)] w fun e w' => e = .returned (.tuple #[.int .i64 (strOfNums s).size, .nilIface]) ∧ Lib.IsBuilder 61 5 B b (Lib.strCells (strOfNums (X ++ s))) w' ∧ Below B w w' := by
  have := Any.Builder_WriteString lays166 extra166 B b (Lib.strCells (strOfNums X)) (strOfNums s) w h (by rw [Lib.strCells_length, strOfNums_size, strOfNums_size]; omega) hB
  refine this.mono ?_
  rintro e w' ⟨he, h1, h2⟩
  rw [strCells_append] at h1
  exact ⟨he, .inr h1, h2⟩
theorem string_any (B b : Nat) (X : List Int) (w : World) (h : Lib.IsBuilder 61 5 B b (Lib.strCells (strOfNums X)) w) (hB : B ≤ w.heap.size) :
    Calls Try.prog 31 #[.pointer (some ⟨b, 0, none⟩)] w fun e w' => e = .returned (.string (strOfNums X)) ∧ Below B w w' := by
  have := Any.Builder_String_any lays169 extra169 B b (strOfNums X).data.toList w h hB
  rw [str_of_data] at this
  exact this

set_option maxRecDepth 100000 in
set_option maxHeartbeats 2000000 in
theorem sprint_any (A : Option Addr) (c : Nat) (ds : List Pd) (w : World) (hrow : PredRow w w.heap.size (.slice A ds.length c) ds) :
    Calls Try.prog 16 #[.slice A ds.length c] w fun e w' => e = .returned (.tuple #[.string (strOfNums (textP (ds.map (·.p)))), .int .i64 (checkP (ds.map (·.p)))]) ∧ Below w.heap.size w w' := by
  obtain ⟨_, hc1, hc2⟩ : ∃ _ : True, ds.length ≤ c ∧ c ≤ 9223372036854775807 := by
    obtain ⟨A', c', hv, q1, q2⟩ := hrow.form
    injection hv with _ _ e3
    exact ⟨trivial, by omega, by omega⟩
  have HCK := Lib.hid (scheck_any A c ds w hrow)
  obtain ⟨n, hn⟩ : ∃ n, w.heap.size = n := ⟨_, rfl⟩
  rw [hn] at hrow HCK ⊢
  have HROW := Lib.hid hrow
  have HN := Lib.hid hn
  clear hrow hn
  by_cases h0 : checkP (ds.map (·.p)) = 0
  · obtain ⟨hs1, hs2⟩ := checkP_small h0
    rw [List.length_map] at hs1
    have HS2 := Lib.hid hs2
    have HT := Lib.hid (show textP (ds.map (·.p)) = printP (ds.map (·.p)) from if_pos h0)
    rw [h0] at HCK ⊢
    clear h0 hs2
    go_enter Try.func16, Try.ntmps16
    go_wp2_with fail
    refine HCK.out.mono ?_
    rintro e w1 ⟨rfl, hb1⟩
    have hib := Lib.fresh_isBuilder 61 5 w1
    obtain ⟨b, hb⟩ : ∃ b, w1.heap.size = b := ⟨_, rfl⟩
    have HB1 := Lib.hid hb1
    have HIB := Lib.hid hib
    have HNB := Lib.hid (show n ≤ b by rw [← HN.out, ← hb]; exact hb1.size)
    have HAL := Lib.hid (show Below n w (w1.alloc (.cells #[.pointer none, .slice none 0 0] 61)) from hb1.alloc (by rw [← HN.out]; exact hb1.size) _)
    clear hb1 hib
    go_wp2_with fail
    rw [hb] at *
    clear hb
    have HIB0 : Hid (Lib.IsBuilder 61 5 b b (Lib.strCells (strOfNums [])) (w1.alloc (.cells #[.pointer none, .slice none 0 0] 61))) := HIB
    clear HIB
    go_loopg [15] ds.length (fun gk i wr => ∃ k : Nat, k ≤ ds.length ∧ i = .int .i64 k ∧ Hid (ds.length - k = gk) ∧ Hid (Lib.IsBuilder 61 5 b b (Lib.strCells (strOfNums (printP ((ds.map (·.p)).take k)))) wr) ∧ Hid (Below n w wr))
    case atStart => exact ⟨0, Nat.zero_le _, rfl, Lib.hid rfl, HIB0, HAL⟩
    case round =>
      obtain ⟨k, hk, rfl, HGK, HIS, HBR⟩ := hrel
      by_cases hlt : k < ds.length
      · obtain ⟨d, hd⟩ : ∃ d, ds[k]? = some d := ⟨_, List.getElem?_eq_getElem hlt⟩
        have hnx : printP ((ds.map (·.p)).take (k + 1)) = printP ((ds.map (·.p)).take k) ++ lineP d.p ++ [10] := by
          rw [List.take_add_one, at_pr hd, printP_append]
          simp [printP]
        have hpl := printP_len ((ds.map (·.p)).take k) (fun p hp => HS2.out p (List.mem_of_mem_take hp))
        rw [List.length_take, List.length_map] at hpl
        have hdl := HS2.out d.p (List.mem_map.2 ⟨d, List.mem_of_getElem? hd, rfl⟩)
        have hll := lineP_len d.p
        obtain ⟨q, o, rfl, hq, x0, x1, hir, hfit, ha1, ha2⟩ := (HROW.out.below HBR.out).at hd
        have HNX := Lib.hid hnx
        have hbl := isB_lt HIS.out
        have hnb := HNB.out
        obtain ⟨w2, hw2⟩ : ∃ w2, wr.alloc (.cells #[.string (strOfNums d.p.name), .slice d.A d.p.args.length d.c] 39) = w2 := ⟨_, rfl⟩
        have h2 : Held w2 wr.heap.size 39 #[.string (strOfNums d.p.name), .slice d.A d.p.args.length d.c] := by rw [← hw2]; exact heap_alloc_new wr _
        have b2 : Below wr.heap.size wr w2 := by rw [← hw2]; exact (Below.refl _ _).alloc (Nat.le_refl _) _
        have HLN := Lib.hid (line_any d.p.name d.p.args d.A d.c (by omega) (by omega) w2 ((hir.below (b2.mono (by omega))).more (by have := h2.lt; omega)))
        change Hid (Calls _ _ _ _ (fun e w' => e = .returned (.string (strOfNums (lineP d.p))) ∧ Below w2.heap.size w2 w')) at HLN
        have HI2 := Lib.hid (isB_below HIS.out b2)
        have HB2 := Lib.hid (HBR.out.trans (b2.mono (by omega)))
        have d0 := h2.cell 0
        have d1 := h2.cell 1
        have dl := h2.lt
        simp at d0 d1
        clear hnx hir hfit hd h2 b2
        generalize printP ((ds.map (·.p)).take k) = X at *
        obtain ⟨L, hL⟩ : ∃ L, lineP d.p = L := ⟨_, rfl⟩
        rw [hL] at HLN HNX hll
        clear hL
        go_wp2_with fail
        refine HLN.out.mono ?_
        rintro e w3 ⟨rfl, hb3⟩
        have HI3 := Lib.hid (isB_below HI2.out hb3)
        have HB3 := Lib.hid (HB2.out.trans (hb3.mono (by have := isB_lt HI2.out; omega)))
        have HW1 := Lib.hid (write_any b b X L w3 HI3.out (by omega) (by have := isB_lt HI3.out; omega))
        clear hb3 d0 d1 dl x0 x1
        go_wp2_with fail
        refine HW1.out.mono ?_
        rintro e w4 ⟨rfl, hi4, hb4⟩
        have HI4 := Lib.hid hi4
        have HB4 := Lib.hid (HB3.out.trans (hb4.mono hnb))
        have HW2 := Lib.hid (write_any b b (X ++ L) [10] w4 hi4 (by simp; omega) (by have := isB_lt hi4; omega))
        clear hi4 hb4 HW1
        go_wp2_with fail
        refine HW2.out.mono ?_
        rintro e w5 ⟨rfl, hi5, hb5⟩
        have HI5 := Lib.hid hi5
        have HB5 := Lib.hid (HB4.out.trans (hb5.mono hnb))
        clear hi5 hb5
        go_wp2_with fail
        go_roundg (ds.length - (k + 1))
        case measure => have := HGK.out; omega
        case rel => exact ⟨k + 1, by omega, by go_num, Lib.hid rfl, Lib.hid (by rw [HNX.out]; exact HI5.out), HB5⟩
      · obtain rfl : k = ds.length := by omega
        have HST := Lib.hid (string_any b b _ wr HIS.out (by have := isB_lt HIS.out; omega))
        go_wp2_with fail
        refine HST.out.mono ?_
        rintro e w6 ⟨rfl, hb6⟩
        go_wp2_with fail
        go_ret2
        exact ⟨by rw [HT.out, List.take_of_length_le (by rw [List.length_map]; exact Nat.le_refl _)]; rfl, HBR.out.trans (hb6.mono HNB.out)⟩
  · have hne : (checkP (ds.map (·.p)) != 0) = true := bne_iff_ne.2 h0
    have HT := Lib.hid (show textP (ds.map (·.p)) = [] from if_neg h0)
    generalize checkP (ds.map (·.p)) = C at HCK hne ⊢
    clear h0
    go_enter Try.func16, Try.ntmps16
    go_wp2_with fail
    refine HCK.out.mono ?_
    rintro e w1 ⟨rfl, hb1⟩
    go_wp2_with fail
    go_ret2
    exact ⟨by rw [HT.out]; rfl, hb1⟩
theorem printP_bytes : ∀ l : List Pr, (∀ p ∈ l, ∀ x ∈ p.name, 0 ≤ x ∧ x < 256) → ∀ x ∈ printP l, 0 ≤ x ∧ x < 256
  | [], _, x, hx => by simp [printP] at hx
  | p :: l, h, x, hx => by
    rw [printP] at hx
    simp only [List.mem_append, List.mem_singleton] at hx
    rcases hx with (hx | rfl) | hx
    · exact line_bytes (h p (by simp)) x hx
    · omega
    · exact printP_bytes l (fun q hq => h q (List.mem_cons_of_mem _ hq)) x hx
theorem PredRow.names {w : World} {B : Nat} {v : Value} {ds : List Pd} (h : PredRow w B v ds) : ∀ p ∈ ds.map (·.p), ∀ x ∈ p.name, 0 ≤ x ∧ x < 256 := by
  intro p hp x hx
  obtain ⟨d, hd, rfl⟩ := List.mem_map.1 hp
  obtain ⟨_, _, _, _, _, _, _, h5⟩ := h
  exact (h5 d hd).2.2.1 x hx
theorem text_small {l : List Pr} (h : ∀ p ∈ l, ∀ x ∈ p.name, 0 ≤ x ∧ x < 256) : (∀ x ∈ textP l, 0 ≤ x ∧ x < 256) ∧ (textP l).length ≤ 6400 := by
  unfold textP
  by_cases h0 : checkP l = 0
  · rw [if_pos h0]
    obtain ⟨h1, h2⟩ := checkP_small h0
    have := printP_len l h2
    exact ⟨printP_bytes l h, by omega⟩
  · rw [if_neg h0]
    simp
#print axioms sline_any
#print axioms sprint_any
end Go.Proofs.Ytncjfnmkoiclbaa
