/-
  What the theorem of ReadBack rests on, part 10 of 15.
-/
import Derived.OwnWalk
import Derived.WalkMore
import Derived.Deep.LoopGhost
import Derived.RangeFuncBox
import Derived.OwnWalkIn
import Derived.Maps.AppendAt
import Derived.Test.YtimihhcidbeonaaGreatReadBackZ9
namespace Go.Proofs.YtimihhcidbeonaaGreat
open Go.RowKit
/-- What Get answers. -/
def FGot (w : World) (t : (Int × List Int) × Nat × Int) (r : Ending) (w' : World) : Prop :=
  ∃ A c, r = .returned (.tuple #[.agg #[.int .i64 t.1.1, .slice A t.1.2.length c], .int .i64 t.2.1, .int .i64 t.2.2]) ∧ Row w' w'.heap.size (.slice A t.1.2.length c) t.1.2 ∧ Below w.heap.size w w'
/-- The same, and the payload lies in a new block. -/
def FNew (w : World) (t : (Int × List Int) × Nat × Int) (r : Ending) (w' : World) : Prop :=
  ∃ A c, r = .returned (.tuple #[.agg #[.int .i64 t.1.1, .slice A t.1.2.length c], .int .i64 t.2.1, .int .i64 t.2.2]) ∧ Row w' w'.heap.size (.slice A t.1.2.length c) t.1.2 ∧ Below w.heap.size w w' ∧ ∀ a, A = some a → w.heap.size ≤ a.block
theorem FNew.got {w w' : World} {t : (Int × List Int) × Nat × Int} {r : Ending} (h : FNew w t r w') : FGot w t r w' := by
  obtain ⟨A, c, h1, h2, h3, _⟩ := h
  exact ⟨A, c, h1, h2, h3⟩
theorem drewN_size (w : World) (n : Nat) : (w.drewN n).heap.size = w.heap.size := rfl
theorem drewN_below (w : World) (n : Nat) : Below w.heap.size w (w.drewN n) := below_drewN (Below.refl _ _) n
theorem Row.keep_but {w w' : World} {B g : Nat} {v : Value} {xs : List Int} (h : Row w B v xs) (hk : ∀ k, k < B → k ≠ g → w'.heap[k]? = w.heap[k]?) (ha : ∀ (i : Nat) (n : Int), w.cell? ⟨g, i, none⟩ ≠ some (.int .u8 n)) : Row w' B v xs := by
  obtain ⟨A, c, hv, h1, h2, h3, h4⟩ := h
  refine ⟨A, c, hv, h1, h2, h3, fun hn => ?_⟩
  obtain ⟨b, o, e, hb, hc⟩ := h4 hn
  refine ⟨b, o, e, hb, fun i hi => ?_⟩
  have hne : b ≠ g := fun e => by
    subst e
    exact ha _ _ (hc 0 hn)
  exact (World.cell?_of_block (hk b hb hne)).trans (hc i hi)
theorem Cur.no_byte {T : TypeId} {w : World} {K g : Nat} {xs : List Int} {p : Nat} {e : Int} (h : Cur T w K g xs p e) (i : Nat) (n : Int) : w.cell? ⟨g, i, none⟩ ≠ some (.int .u8 n) := by
  obtain ⟨A, c, h1, _⟩ := h
  rw [h1.cell i]
  match i with
  | 0 => simp
  | 1 => simp
  | 2 => simp
  | i + 3 => simp
theorem Cur.drew1 {T : TypeId} {w : World} {K g : Nat} {xs : List Int} {p : Nat} {e : Int} (h : Cur T w K g xs p e) : Cur T w.drew K g xs p e := h
theorem Row.drew1 {w : World} {B : Nat} {v : Value} {xs : List Int} (h : Row w B v xs) : Row w.drew B v xs := h
set_option maxRecDepth 100000 in
set_option maxHeartbeats 2000000 in
theorem fget_new (A : Option Addr) (c : Nat) (xs : List Int) (hsm : xs.length ≤ 9223372036854775807) (w : World) (hrow : Row w w.heap.size (.slice A xs.length c) xs) (hb : ∀ x ∈ xs, 0 ≤ x ∧ x < 256) :
    Calls Tryz.prog 88 #[.slice A xs.length c] w (FNew w (getFr xs)) := by
  have HROW := Lib.hid hrow; clear hrow
  have HB := Lib.hid hb; clear hb
  have hmk := fun W (h : Row W W.heap.size (.slice A xs.length c) xs) => marked_any A c xs W h HB.out
  by_cases hm : markI markL xs = 0
  · rw [hm] at hmk
    have HMK := Lib.hid hmk; clear hmk
    have hx := markI_back hm
    have hbr : ∀ x ∈ xs.drop 4, 0 ≤ x ∧ x < 256 := drop_bytes HB.out 4
    have hl4 : 4 ≤ xs.length := by rw [hx]; simp [markL]
    have hcs : xs.length ≤ c ∧ c ≤ 9223372036854775807 := by
      obtain ⟨_, _, hv, q1, q2, _⟩ := HROW.out
      injection hv with _ _ e3
      subst e3
      unfold maxLen at q2
      exact ⟨q1, by omega⟩
    obtain ⟨hlc, hcm⟩ := hcs
    have hrr := HROW.out.drop hl4
    have hrl : (xs.drop 4).length = xs.length - 4 := by simp
    obtain ⟨hpl, hget⟩ := taken (xs.drop 4) hbr ((xs.drop 4).take 4103) rfl _ rfl
    rw [← hx] at hget
    have hzb : ∀ x ∈ (xs.drop 4).take 4103, 0 ≤ x ∧ x < 256 := fun x hx => hbr x (List.mem_of_mem_take hx)
    have hzl : ((xs.drop 4).take 4103).length ≤ xs.length - 4 := by simp; omega
    have hzm : ((xs.drop 4).take 4103).length ≤ 4103 := by simp only [List.length_take]; omega
    have hnt := fun W A c (h : Row W W.heap.size (.slice A (xs.drop 4).length c) (xs.drop 4)) => newt_any A c (xs.drop 4) (by omega) W h
    rw [hrl] at hrr hnt
    have HGET := Lib.hid hget; clear hget hx hm
    have HRR := Lib.hid hrr; clear hrr
    have HNT := Lib.hid hnt; clear hnt
    have HBR := Lib.hid hbr; clear hbr
    have HRL := Lib.hid hrl; clear hrl
    have HZB := Lib.hid hzb; clear hzb
    generalize (xs.drop 4).take 4103 = zs at HGET HNT HZB hpl hzl hzm
    have i4 : (4 : Int) ≤ (xs.length : Int) := by omega
    have i5 : (xs.length : Int) ≤ (c : Int) := by omega
    obtain ⟨b, o, rfl⟩ : ∃ b o, A = some ⟨b, o, none⟩ := by
      obtain ⟨_, _, hv, _, _, _, h4⟩ := HROW.out
      injection hv with e1 _ e3
      obtain ⟨b, o, e2, _⟩ := h4 (by omega)
      exact ⟨b, o, e1.trans e2⟩
    by_cases hc4 : c = 4
    · subst hc4
      have hx4 : xs.length = 4 := by omega
      have hr3 := HRR.out
      simp only [if_true, hx4, Nat.sub_self] at hr3
      simp only [hx4, Nat.sub_self] at HRL HNT hzl
      have HR3 := Lib.hid hr3
      clear HRR hr3 hx4
      go_enter Tryz.func88, Tryz.ntmps88
      go_wp2_with fail
      refine (HMK.out _ ((HROW.out.below ((Below.refl _ _).alloc (Nat.le_refl _) _)).more (by simp))).mono ?_
      rintro e w1' ⟨rfl, n1, rfl⟩
      go_wp2_with fail
      refine (HNT.out _ _ _ ((HR3.out.below ((((Below.refl _ _).alloc (Nat.le_refl _) _)).trans ((drewN_below _ _).mono (by simp)))).more (by simp))).mono ?_
      rintro e w2 ⟨g, rfl, hg, hcur, hb2⟩
      have hgl := hcur.lt
      rw [drewN_size, World.size_alloc] at hg hcur hb2
      have hz2 := hb2.size
      have hz2' : w.heap.size + 1 ≤ w2.heap.size := by simpa using hz2
      have bw2 : Below w.heap.size w w2 := (((Below.refl _ _).alloc (Nat.le_refl _) _).trans ((drewN_below _ _).mono (by simp))).trans (hb2.mono (by simp))
      have hres : Held w2 w.heap.size 78 #[.int .i64 0, .slice none 0 0] := (hb2.block w.heap.size (by simp)).trans (heap_alloc_new w _)
      obtain ⟨N1, hN1⟩ : ∃ N1, w2.heap.size = N1 := ⟨_, rfl⟩
      obtain ⟨N0, hN0⟩ : ∃ N0, w.heap.size = N0 := ⟨_, rfl⟩
      have hcur3 := hcur.boxed (by omega) (.cells #[.pointer (some ⟨g, 0, none⟩)] 229)
      have ht3 : Held (w2.alloc (.cells #[.pointer (some ⟨g, 0, none⟩)] 229)) N1 229 #[.pointer (some ⟨g, 0, none⟩)] := by rw [← hN1]; exact heap_alloc_new w2 _
      have hres3 : Held (w2.alloc (.cells #[.pointer (some ⟨g, 0, none⟩)] 229)) N0 78 #[.int .i64 0, .slice none 0 0] := by rw [← hN0]; exact hres.below ((Below.refl _ _).alloc (Nat.le_refl _) _) (by omega)
      have bw3 : Below w.heap.size w (w2.alloc (.cells #[.pointer (some ⟨g, 0, none⟩)] 229)) := bw2.alloc (by omega) _
      rw [hN0] at hcur3 hg hz2'
      rw [hN1] at hgl hz2'
      have HC3 := Lib.hid hcur3
      have HT3 := Lib.hid ht3
      have HRES3 := Lib.hid hres3
      have HBW3 := Lib.hid bw3
      have HN1 := Lib.hid hN1
      have HN0 := Lib.hid hN0
      clear hb2 hz2 hcur bw2 hres hcur3 ht3 hres3 bw3
      try simp only [hN0]
      go_wp2_with fail
      try simp only [hN1]
      clear hN0 hN1
      obtain ⟨w3, hw3⟩ : ∃ w3, w2.alloc (.cells #[.pointer (some ⟨g, 0, none⟩)] 229) = w3 := ⟨_, rfl⟩
      rw [hw3] at HC3 HT3 HRES3 HBW3 ⊢
      have hN1lt : N1 < w3.heap.size := HT3.out.lt
      clear hw3
      have HK := Lib.hid (kind_any HC3.out (by omega) HZB.out)
      refine HK.out.mono ?_
      rintro r w4 ⟨rfl, hc4', hg4⟩
      have HT4 := Lib.hid (HT3.out.grown hg4 (fun e => by injection e with e; omega))
      have HRES4 := Lib.hid (HRES3.out.grown hg4 (fun e => by injection e with e; omega))
      have hkp : (takeK zs).2.1 ≤ zs.length := tk_at_le 0 (Nat.zero_le _) (by simp)
      have HP := payload_any hc4' hkp (by omega) HZB.out (by omega)
      change Calls Tryz.prog _ _ _ (fun r w' => ∃ A c, r = .returned (.slice A (takeP zs).1.length c) ∧ Row w' w'.heap.size (.slice A (takeP zs).1.length c) (takeP zs).1 ∧ Cur 174 w' (N0 + 1) g zs (takeP zs).2.1 (takeP zs).2.2 ∧ w4.grownBy w' (some g) ∧ ∀ a, A = some a → w4.heap.size ≤ a.block) at HP
      have HP2 := Lib.hid HP
      have HG4 := Lib.hid hg4
      have ht4 := HT4.out.cell 0
      simp at ht4
      clear HP hc4' hg4 hkp
      go_wp2_with fail
      refine HP2.out.mono ?_
      rintro r w5 ⟨A5, c5, rfl, hr5, hc5, hg5, hn5⟩
      have HN5 := Lib.hid (fun a e => Nat.le_trans (Nat.le_trans HBW3.out.size HG4.out.size) (hn5 a e)); clear hn5
      have HT5 := Lib.hid (HT4.out.grown hg5 (fun e => by injection e with e; omega))
      have HRES5 := Lib.hid (HRES4.out.grown hg5 (fun e => by injection e with e; omega))
      have hlt5 := HT5.out.lt
      have ht5 := HT5.out.cell 0
      simp at ht5
      have HR5 := Lib.hid hr5
      have HC5 := Lib.hid hc5
      have HG5 := Lib.hid (grown_trans HG4.out hg5)
      clear ht4 hr5 hc5 hg5
      have hrb := HR3.out.take (k := (takeP zs).2.1) (by rw [HRL.out]; omega)
      have hbl : ((xs.drop 4).take (takeP zs).2.1).length = (takeP zs).2.1 := by rw [List.length_take, HRL.out]; omega
      have hbb : ∀ x ∈ (xs.drop 4).take (takeP zs).2.1, 0 ≤ x ∧ x < 256 := fun x hx => HBR.out x (List.mem_of_mem_take hx)
      have hrb5 : Row w5 (N0 + 1) (.slice (some ⟨b, o, none⟩) ((xs.drop 4).take (takeP zs).2.1).length (0)) ((xs.drop 4).take (takeP zs).2.1) := by
        refine Row.more (B := w.heap.size) (Row.keep (hrb.below (HBW3.out)) (fun q hq => World.cell?_of_block (HG5.out.block q.block ?_ (fun e => ?_)))) ?_
        · have := HBW3.out.size; omega
        · injection e with e; have := HN0.out; omega
        · have := HN0.out; omega
      have hsum := fun W h1 h2 => tsum_any (w := W) (K := N0 + 1) (g := g) (zs := zs) (p := (takeP zs).2.1) (e := (takeP zs).2.2) h1 hpl (by omega) HZB.out (some ⟨b, o, none⟩) (0) ((xs.drop 4).take (takeP zs).2.1) h2 hbb
      rw [hbl] at hsum hrb5
      generalize errS zs (takeP zs).2.1 (takeP zs).2.2 ((xs.drop 4).take (takeP zs).2.1) = er at HGET hsum
      generalize (xs.drop 4).take (takeP zs).2.1 = body at hsum hrb5
      have hqa := at4_le (zs := zs) (e := (takeP zs).2.2) hpl 4
      generalize (at4 zs (takeP zs).2.1 (takeP zs).2.2 4).1 = qa at HGET hsum hqa
      generalize (takeK zs).1 = kk at HGET ⊢
      generalize takeP zs = tp at HGET HR5 HC5 hsum hrb5 hpl ⊢
      obtain ⟨pp, q, e2⟩ := tp
      simp only at hpl hsum hrb5
      obtain rfl : q = 0 := by omega
      have HRB5 := Lib.hid hrb5
      have HSUM := Lib.hid hsum
      clear hrb hbl hbb hrb5 hsum
      simp only
      go_wp2_with fail
      go_region_held3 (fun W => W.cell? ⟨N1, 0, none⟩ = some (.pointer (some ⟨g, 0, none⟩)))
        (first | go_keep | exact (World.cell?_of_block (hg6.block N1 (by simpa using hlt5) (fun e => by injection e with e; omega))).trans ht5)
        (first
          | (go_at_call 147; (with_reducible refine (at_any (w := _) (Cur.drew1 HC5.out)).mono ?_); rintro r w6 ⟨rfl, rfl⟩)
          | (go_at_call 146; (with_reducible refine (HSUM.out _ (Cur.drew1 HC5.out) (Row.drew1 HRB5.out)).mono ?_); rintro r w6 ⟨rfl, hc6, hg6⟩))
      have hg6' : w5.grownBy w6 (some g) := grown_drew hg6
      have HT6 := Lib.hid (HT5.out.grown hg6' (fun e => by injection e with e; omega))
      have HRES6 := Lib.hid (HRES5.out.grown hg6' (fun e => by injection e with e; omega))
      have ht6 := HT6.out.cell 0
      simp at ht6
      have hr0 := HRES6.out.cell 0
      have hr1 := HRES6.out.cell 1
      simp at hr0 hr1
      have hf0 := HRES6.out.frozen 0
      have hf1 := HRES6.out.frozen 1
      have hR6 : Row w6 w6.heap.size (.slice A5 pp.length c5) pp := (HR5.out.keep_but (g := g) (fun k hk hn => hg6'.block k hk (fun e => by injection e with e; exact hn e)) (HC5.out.no_byte)).more hg6'.size
      have HR6 := Lib.hid hR6
      have bw6 : Below w.heap.size w w6 := ((HBW3.out.grown HG5.out HBW3.out.size (fun k hk => by injection hk with hk; have := HN0.out; omega))).grown hg6' (by have := HBW3.out.size; have := HG5.out.size; omega) (fun k hk => by injection hk with hk; have := HN0.out; omega)
      have HBW6 := Lib.hid bw6
      have HC6 := Lib.hid hc6
      clear hc6 hg6 hg6' ht5 hR6 bw6
      have HER := Lib.hid (err_any HC6.out)
      have HAT := Lib.hid (at_any HC6.out)
      by_cases her : er = 0
      · subst her
        have hget : getFr xs = ((kk, pp), 4 + qa, 0) := by rw [HGET.out, if_neg (by simp)]
        have HG7 := Lib.hid hget; clear hget
        go_wp2_with fail
        refine HER.out.mono ?_
        rintro r w7 ⟨rfl, rfl⟩
        go_wp2_with fail
        refine HAT.out.mono ?_
        rintro r w8 ⟨rfl, rfl⟩
        go_wp2_with fail
        have hfin := (HRES6.out.put 0 (.int .i64 kk)).put 1 (.slice A5 pp.length c5)
        have e0 := hfin.cell 0
        have e1 := hfin.cell 1
        simp at e0 e1
        refine bodyPost_ret (v := .tuple #[.agg #[.int .i64 kk, .slice A5 pp.length c5], .int .i64 (4 + (qa : Int)), .int .i64 0]) (by simp [results, Tryz.results88, go_sem, e0, e1]) rfl ?_
        rw [HG7.out]
        refine ⟨A5, c5, by rw [show (((4 + qa : Nat) : Nat) : Int) = 4 + (qa : Int) by omega], ?_, ?_, HN5.out⟩
        · refine (HR6.out.keep_but (g := N0) (fun k _ hn => ?_) (fun i n => ?_)).more (by simp)
          · exact (Below.heap_setCell _ ⟨N0, 1, none⟩ _ k (by simp only; exact hn)).trans (Below.heap_setCell _ ⟨N0, 0, none⟩ _ k (by simp only; exact hn))
          · rw [HRES6.out.cell i]
            match i with
            | 0 => simp
            | 1 => simp
            | i + 2 => simp
        · exact (HBW6.out.setCell (p := ⟨N0, 0, none⟩) (Nat.le_of_eq HN0.out) _).setCell (p := ⟨N0, 1, none⟩) (Nat.le_of_eq HN0.out) _
      · have hne : (er != 0) = true := bne_iff_ne.2 her
        have hne2 : (er == 0) = false := beq_eq_false_iff_ne.2 her
        have hget : getFr xs = noFr er := by rw [HGET.out, if_pos her]
        have HG7 := Lib.hid hget; clear hget
        go_wp2_with fail
        refine HER.out.mono ?_
        rintro r w7 ⟨rfl, rfl⟩
        go_wp2_with fail
        have hfin := (HRES6.out.put 0 (.int .i64 0)).put 1 (.slice none 0 0)
        have e0 := hfin.cell 0
        have e1 := hfin.cell 1
        simp at e0 e1
        refine bodyPost_ret (v := .tuple #[.agg #[.int .i64 0, .slice none 0 0], .int .i64 0, .int .i64 er]) (by simp [results, Tryz.results88, go_sem, e0, e1]) rfl ?_
        rw [HG7.out]
        exact ⟨none, 0, rfl, Row.nil _ _, (HBW6.out.setCell (p := ⟨N0, 0, none⟩) (Nat.le_of_eq HN0.out) _).setCell (p := ⟨N0, 1, none⟩) (Nat.le_of_eq HN0.out) _, fun a e => by cases e⟩
    · have hr3 := HRR.out
      rw [if_neg hc4, Option.map_some, Go.WideShapes.add_plain] at hr3
      have HR3 := Lib.hid hr3
      clear HRR hr3
      have hc40 : 4 < c := by omega
      go_enter Tryz.func88, Tryz.ntmps88
      go_wp2_with fail
      refine (HMK.out _ ((HROW.out.below ((Below.refl _ _).alloc (Nat.le_refl _) _)).more (by simp))).mono ?_
      rintro e w1' ⟨rfl, n1, rfl⟩
      go_wp2_with fail
      refine (HNT.out _ _ _ ((HR3.out.below ((((Below.refl _ _).alloc (Nat.le_refl _) _)).trans ((drewN_below _ _).mono (by simp)))).more (by simp))).mono ?_
      rintro e w2 ⟨g, rfl, hg, hcur, hb2⟩
      have hgl := hcur.lt
      rw [drewN_size, World.size_alloc] at hg hcur hb2
      have hz2 := hb2.size
      have hz2' : w.heap.size + 1 ≤ w2.heap.size := by simpa using hz2
      have bw2 : Below w.heap.size w w2 := (((Below.refl _ _).alloc (Nat.le_refl _) _).trans ((drewN_below _ _).mono (by simp))).trans (hb2.mono (by simp))
      have hres : Held w2 w.heap.size 78 #[.int .i64 0, .slice none 0 0] := (hb2.block w.heap.size (by simp)).trans (heap_alloc_new w _)
      obtain ⟨N1, hN1⟩ : ∃ N1, w2.heap.size = N1 := ⟨_, rfl⟩
      obtain ⟨N0, hN0⟩ : ∃ N0, w.heap.size = N0 := ⟨_, rfl⟩
      have hcur3 := hcur.boxed (by omega) (.cells #[.pointer (some ⟨g, 0, none⟩)] 229)
      have ht3 : Held (w2.alloc (.cells #[.pointer (some ⟨g, 0, none⟩)] 229)) N1 229 #[.pointer (some ⟨g, 0, none⟩)] := by rw [← hN1]; exact heap_alloc_new w2 _
      have hres3 : Held (w2.alloc (.cells #[.pointer (some ⟨g, 0, none⟩)] 229)) N0 78 #[.int .i64 0, .slice none 0 0] := by rw [← hN0]; exact hres.below ((Below.refl _ _).alloc (Nat.le_refl _) _) (by omega)
      have bw3 : Below w.heap.size w (w2.alloc (.cells #[.pointer (some ⟨g, 0, none⟩)] 229)) := bw2.alloc (by omega) _
      rw [hN0] at hcur3 hg hz2'
      rw [hN1] at hgl hz2'
      have HC3 := Lib.hid hcur3
      have HT3 := Lib.hid ht3
      have HRES3 := Lib.hid hres3
      have HBW3 := Lib.hid bw3
      have HN1 := Lib.hid hN1
      have HN0 := Lib.hid hN0
      clear hb2 hz2 hcur bw2 hres hcur3 ht3 hres3 bw3
      try simp only [hN0]
      go_wp2_with fail
      try simp only [hN1]
      clear hN0 hN1
      obtain ⟨w3, hw3⟩ : ∃ w3, w2.alloc (.cells #[.pointer (some ⟨g, 0, none⟩)] 229) = w3 := ⟨_, rfl⟩
      rw [hw3] at HC3 HT3 HRES3 HBW3 ⊢
      have hN1lt : N1 < w3.heap.size := HT3.out.lt
      clear hw3
      have HK := Lib.hid (kind_any HC3.out (by omega) HZB.out)
      refine HK.out.mono ?_
      rintro r w4 ⟨rfl, hc4', hg4⟩
      have HT4 := Lib.hid (HT3.out.grown hg4 (fun e => by injection e with e; omega))
      have HRES4 := Lib.hid (HRES3.out.grown hg4 (fun e => by injection e with e; omega))
      have hkp : (takeK zs).2.1 ≤ zs.length := tk_at_le 0 (Nat.zero_le _) (by simp)
      have HP := payload_any hc4' hkp (by omega) HZB.out (by omega)
      change Calls Tryz.prog _ _ _ (fun r w' => ∃ A c, r = .returned (.slice A (takeP zs).1.length c) ∧ Row w' w'.heap.size (.slice A (takeP zs).1.length c) (takeP zs).1 ∧ Cur 174 w' (N0 + 1) g zs (takeP zs).2.1 (takeP zs).2.2 ∧ w4.grownBy w' (some g) ∧ ∀ a, A = some a → w4.heap.size ≤ a.block) at HP
      have HP2 := Lib.hid HP
      have HG4 := Lib.hid hg4
      have ht4 := HT4.out.cell 0
      simp at ht4
      clear HP hc4' hg4 hkp
      go_wp2_with fail
      refine HP2.out.mono ?_
      rintro r w5 ⟨A5, c5, rfl, hr5, hc5, hg5, hn5⟩
      have HN5 := Lib.hid (fun a e => Nat.le_trans (Nat.le_trans HBW3.out.size HG4.out.size) (hn5 a e)); clear hn5
      have HT5 := Lib.hid (HT4.out.grown hg5 (fun e => by injection e with e; omega))
      have HRES5 := Lib.hid (HRES4.out.grown hg5 (fun e => by injection e with e; omega))
      have hlt5 := HT5.out.lt
      have ht5 := HT5.out.cell 0
      simp at ht5
      have HR5 := Lib.hid hr5
      have HC5 := Lib.hid hc5
      have HG5 := Lib.hid (grown_trans HG4.out hg5)
      clear ht4 hr5 hc5 hg5
      have hrb := HR3.out.take (k := (takeP zs).2.1) (by rw [HRL.out]; omega)
      have hbl : ((xs.drop 4).take (takeP zs).2.1).length = (takeP zs).2.1 := by rw [List.length_take, HRL.out]; omega
      have hbb : ∀ x ∈ (xs.drop 4).take (takeP zs).2.1, 0 ≤ x ∧ x < 256 := fun x hx => HBR.out x (List.mem_of_mem_take hx)
      have hrb5 : Row w5 (N0 + 1) (.slice (some ⟨b, o + 4, none⟩) ((xs.drop 4).take (takeP zs).2.1).length (c - 4)) ((xs.drop 4).take (takeP zs).2.1) := by
        refine Row.more (B := w.heap.size) (Row.keep (hrb.below (HBW3.out)) (fun q hq => World.cell?_of_block (HG5.out.block q.block ?_ (fun e => ?_)))) ?_
        · have := HBW3.out.size; omega
        · injection e with e; have := HN0.out; omega
        · have := HN0.out; omega
      have hsum := fun W h1 h2 => tsum_any (w := W) (K := N0 + 1) (g := g) (zs := zs) (p := (takeP zs).2.1) (e := (takeP zs).2.2) h1 hpl (by omega) HZB.out (some ⟨b, o + 4, none⟩) (c - 4) ((xs.drop 4).take (takeP zs).2.1) h2 hbb
      rw [hbl] at hsum hrb5
      generalize errS zs (takeP zs).2.1 (takeP zs).2.2 ((xs.drop 4).take (takeP zs).2.1) = er at HGET hsum
      generalize (xs.drop 4).take (takeP zs).2.1 = body at hsum hrb5
      have hqa := at4_le (zs := zs) (e := (takeP zs).2.2) hpl 4
      generalize (at4 zs (takeP zs).2.1 (takeP zs).2.2 4).1 = qa at HGET hsum hqa
      generalize (takeK zs).1 = kk at HGET ⊢
      generalize takeP zs = tp at HGET HR5 HC5 hsum hrb5 hpl ⊢
      obtain ⟨pp, q, e2⟩ := tp
      simp only at hpl hsum hrb5
      have i6 : (0 : Int) ≤ (q : Int) := by omega
      have i7 : (q : Int) ≤ ((c - 4 : Nat) : Int) := by omega
      have i8 : (q : Int) ≤ ((xs.length - 4 : Nat) : Int) := by omega
      have HRB5 := Lib.hid hrb5
      have HSUM := Lib.hid hsum
      clear hrb hbl hbb hrb5 hsum
      simp only
      go_wp2_with fail
      go_region_held3 (fun W => W.cell? ⟨N1, 0, none⟩ = some (.pointer (some ⟨g, 0, none⟩)))
        (first | go_keep | exact (World.cell?_of_block (hg6.block N1 (by simpa using hlt5) (fun e => by injection e with e; omega))).trans ht5)
        (first
          | (go_at_call 147; (with_reducible refine (at_any (w := _) (Cur.drew1 HC5.out)).mono ?_); rintro r w6 ⟨rfl, rfl⟩)
          | (go_at_call 146; (with_reducible refine (HSUM.out _ (Cur.drew1 HC5.out) (Row.drew1 HRB5.out)).mono ?_); rintro r w6 ⟨rfl, hc6, hg6⟩))
      have hg6' : w5.grownBy w6 (some g) := grown_drew hg6
      have HT6 := Lib.hid (HT5.out.grown hg6' (fun e => by injection e with e; omega))
      have HRES6 := Lib.hid (HRES5.out.grown hg6' (fun e => by injection e with e; omega))
      have ht6 := HT6.out.cell 0
      simp at ht6
      have hr0 := HRES6.out.cell 0
      have hr1 := HRES6.out.cell 1
      simp at hr0 hr1
      have hf0 := HRES6.out.frozen 0
      have hf1 := HRES6.out.frozen 1
      have hR6 : Row w6 w6.heap.size (.slice A5 pp.length c5) pp := (HR5.out.keep_but (g := g) (fun k hk hn => hg6'.block k hk (fun e => by injection e with e; exact hn e)) (HC5.out.no_byte)).more hg6'.size
      have HR6 := Lib.hid hR6
      have bw6 : Below w.heap.size w w6 := ((HBW3.out.grown HG5.out HBW3.out.size (fun k hk => by injection hk with hk; have := HN0.out; omega))).grown hg6' (by have := HBW3.out.size; have := HG5.out.size; omega) (fun k hk => by injection hk with hk; have := HN0.out; omega)
      have HBW6 := Lib.hid bw6
      have HC6 := Lib.hid hc6
      clear hc6 hg6 hg6' ht5 hR6 bw6
      have HER := Lib.hid (err_any HC6.out)
      have HAT := Lib.hid (at_any HC6.out)
      by_cases her : er = 0
      · subst her
        have hget : getFr xs = ((kk, pp), 4 + qa, 0) := by rw [HGET.out, if_neg (by simp)]
        have HG7 := Lib.hid hget; clear hget
        go_wp2_with fail
        refine HER.out.mono ?_
        rintro r w7 ⟨rfl, rfl⟩
        go_wp2_with fail
        refine HAT.out.mono ?_
        rintro r w8 ⟨rfl, rfl⟩
        go_wp2_with fail
        have hfin := (HRES6.out.put 0 (.int .i64 kk)).put 1 (.slice A5 pp.length c5)
        have e0 := hfin.cell 0
        have e1 := hfin.cell 1
        simp at e0 e1
        refine bodyPost_ret (v := .tuple #[.agg #[.int .i64 kk, .slice A5 pp.length c5], .int .i64 (4 + (qa : Int)), .int .i64 0]) (by simp [results, Tryz.results88, go_sem, e0, e1]) rfl ?_
        rw [HG7.out]
        refine ⟨A5, c5, by rw [show (((4 + qa : Nat) : Nat) : Int) = 4 + (qa : Int) by omega], ?_, ?_, HN5.out⟩
        · refine (HR6.out.keep_but (g := N0) (fun k _ hn => ?_) (fun i n => ?_)).more (by simp)
          · exact (Below.heap_setCell _ ⟨N0, 1, none⟩ _ k (by simp only; exact hn)).trans (Below.heap_setCell _ ⟨N0, 0, none⟩ _ k (by simp only; exact hn))
          · rw [HRES6.out.cell i]
            match i with
            | 0 => simp
            | 1 => simp
            | i + 2 => simp
        · exact (HBW6.out.setCell (p := ⟨N0, 0, none⟩) (Nat.le_of_eq HN0.out) _).setCell (p := ⟨N0, 1, none⟩) (Nat.le_of_eq HN0.out) _
      · have hne : (er != 0) = true := bne_iff_ne.2 her
        have hne2 : (er == 0) = false := beq_eq_false_iff_ne.2 her
        have hget : getFr xs = noFr er := by rw [HGET.out, if_pos her]
        have HG7 := Lib.hid hget; clear hget
        go_wp2_with fail
        refine HER.out.mono ?_
        rintro r w7 ⟨rfl, rfl⟩
        go_wp2_with fail
        have hfin := (HRES6.out.put 0 (.int .i64 0)).put 1 (.slice none 0 0)
        have e0 := hfin.cell 0
        have e1 := hfin.cell 1
        simp at e0 e1
        refine bodyPost_ret (v := .tuple #[.agg #[.int .i64 0, .slice none 0 0], .int .i64 0, .int .i64 er]) (by simp [results, Tryz.results88, go_sem, e0, e1]) rfl ?_
        rw [HG7.out]
        exact ⟨none, 0, rfl, Row.nil _ _, (HBW6.out.setCell (p := ⟨N0, 0, none⟩) (Nat.le_of_eq HN0.out) _).setCell (p := ⟨N0, 1, none⟩) (Nat.le_of_eq HN0.out) _, fun a e => by cases e⟩
  · have hget : getFr xs = noFr (markI markL xs) := by unfold getFr; rw [if_pos hm]
    generalize markI markL xs = er at hget hmk hm
    have hne : (er != 0) = true := bne_iff_ne.2 hm
    have hne2 : (er == 0) = false := beq_eq_false_iff_ne.2 hm
    have HMK := Lib.hid hmk; clear hmk
    have HG7 := Lib.hid hget; clear hget
    go_enter Tryz.func88, Tryz.ntmps88
    go_wp2_with fail
    refine (HMK.out _ ((HROW.out.below ((Below.refl _ _).alloc (Nat.le_refl _) _)).more (by simp))).mono ?_
    rintro e w1' ⟨rfl, n1, rfl⟩
    go_wp2_with fail
    refine bodyPost_ret (v := .tuple #[.agg #[.int .i64 0, .slice none 0 0], .int .i64 0, .int .i64 er]) (by simp [results, Tryz.results88, go_sem]) rfl ?_
    rw [HG7.out]
    exact ⟨none, 0, rfl, Row.nil _ _, ((((Below.refl _ _).alloc (Nat.le_refl _) _).trans ((drewN_below _ _).mono (by simp))).setCell (p := ⟨w.heap.size, 0, none⟩) (Nat.le_refl _) _).setCell (p := ⟨w.heap.size, 1, none⟩) (Nat.le_refl _) _, fun a e => by cases e⟩
theorem fget_any (A : Option Addr) (c : Nat) (xs : List Int) (hsm : xs.length ≤ 9223372036854775807) (w : World) (hrow : Row w w.heap.size (.slice A xs.length c) xs) (hb : ∀ x ∈ xs, 0 ≤ x ∧ x < 256) :
    Calls Tryz.prog 88 #[.slice A xs.length c] w (FGot w (getFr xs)) := (fget_new A c xs hsm w hrow hb).mono fun _ _ h => h.got
end Go.Proofs.YtimihhcidbeonaaGreat

namespace Go.Proofs.YtimihhcidbeonaaGreat
open Go.RowKit
/-- A row of bytes is one still, behind a store into a block that holds no byte. -/
theorem Row.past_put {w : World} {B g : Nat} {t : TypeId} {cs : Array Value} {v : Value} {xs : List Int} (h : Row w B v xs) (hg : Held w g t cs) (hcs : ∀ (i : Nat) (n : Int), cs[i]? ≠ some (.int .u8 n)) (i : Nat) (u : Value) :
    Row (w.setCell ⟨g, i, none⟩ u) B v xs :=
  h.keep_but (g := g) (fun k _ hn => Below.heap_setCell _ ⟨g, i, none⟩ _ k (by simp only; exact hn)) (fun j n => by rw [hg.cell j]; exact hcs j n)
theorem two_nob {x : Int} {v : Value} (hv : ∀ n, v ≠ .int .u8 n) (i : Nat) (n : Int) : (#[Value.int .i64 x, v] : Array Value)[i]? ≠ some (.int .u8 n) := by
  match i with
  | 0 => simp
  | 1 => simpa using hv n
  | i + 2 => simp
set_option maxRecDepth 100000 in
set_option maxHeartbeats 1000000 in
theorem at_new (A : Option Addr) (c : Nat) (xs : List Int) (hsm : xs.length ≤ 9223372036854775807) (w : World) (hrow : Row w w.heap.size (.slice A xs.length c) xs) (hb : ∀ x ∈ xs, 0 ≤ x ∧ x < 256) (k : Nat) (hk : k ≤ xs.length) :
    Calls Tryz.prog 182 #[.slice A xs.length c, .int .i64 k] w (FNew w (getFr (xs.drop k))) := by
  have hcs : xs.length ≤ c ∧ c ≤ 9223372036854775807 := by
    obtain ⟨_, _, hv, q1, q2, _⟩ := hrow
    injection hv with _ _ e3
    subst e3
    unfold maxLen at q2
    exact ⟨q1, by omega⟩
  obtain ⟨hlc, hcm⟩ := hcs
  have hrr := hrow.drop hk
  have hrow0 := hrow
  have hbr : ∀ x ∈ xs.drop k, 0 ≤ x ∧ x < 256 := drop_bytes hb k
  have hrl : (xs.drop k).length = xs.length - k := by simp
  have hget := fun W (h : Row W W.heap.size (.slice (if c = k then A else A.map (·.add k)) (xs.drop k).length (c - k)) (xs.drop k)) => fget_new (if c = k then A else A.map (·.add k)) (c - k) (xs.drop k) (by omega) W h hbr
  rw [hrl] at hrr hget
  clear hrow hb hbr hrl
  generalize getFr (xs.drop k) = t at hget ⊢
  have k0 : (0 : Int) ≤ k := by omega
  have k1 : (k : Int) ≤ (xs.length : Int) := by omega
  by_cases hck : c = k
  · subst hck
    rw [if_pos rfl, Nat.sub_self, show xs.length - c = 0 by omega] at hrr hget
    have HG := Lib.hid hget
    have HR := Lib.hid hrr
    clear hrr hget
    have HR0 := Lib.hid ((HR.out.below ((Below.refl _ _).alloc (Nat.le_refl _) (.cells #[.int .i64 0, .slice none 0 0] 78))).more (by simp : w.heap.size ≤ (w.alloc (.cells #[.int .i64 0, .slice none 0 0] 78)).heap.size))
    go_enter Tryz.func182, Tryz.ntmps182
    go_wp2_with fail
    refine (HG.out _ HR0.out).mono ?_
    rintro e w1 ⟨A1, c1, rfl, hrow1, hb1, hn1⟩
    have HN1 := Lib.hid (fun a e => Nat.le_trans (by simp : w.heap.size ≤ (w.alloc (.cells #[.int .i64 0, .slice none 0 0] 78)).heap.size) (hn1 a e)); clear hn1
    have hz1 : w.heap.size + 1 ≤ w1.heap.size := by simpa using hb1.size
    have hres : Held w1 w.heap.size 78 #[.int .i64 0, .slice none 0 0] := (hb1.block w.heap.size (by simp)).trans (heap_alloc_new w _)
    have bw1 : Below w.heap.size w w1 := ((Below.refl _ _).alloc (Nat.le_refl _) _).trans (hb1.mono (by simp))
    have hf0 := hres.frozen 0
    have hf1 := hres.frozen 1
    have hr0 := hres.cell 0
    have hr1 := hres.cell 1
    simp at hr0 hr1
    have HROW1 := Lib.hid hrow1
    have HB1 := Lib.hid bw1
    have HRES := Lib.hid hres
    clear hb1 hrow1 bw1 hres
    go_wp2_with fail
    have hfin := (HRES.out.put 0 (.int .i64 t.1.1)).put 1 (.slice A1 t.1.2.length c1)
    have e0 := hfin.cell 0
    have e1 := hfin.cell 1
    simp at e0 e1
    refine bodyPost_ret (v := .tuple #[.agg #[.int .i64 t.1.1, .slice A1 t.1.2.length c1], .int .i64 t.2.1, .int .i64 t.2.2]) (by simp [results, Tryz.results182, go_sem, e0, e1]) rfl ?_
    refine ⟨A1, c1, rfl, ?_, ?_, HN1.out⟩
    · have h1 := HROW1.out.past_put HRES.out (two_nob (by simp)) 0 (.int .i64 t.1.1)
      have h2 := h1.past_put (by simpa using HRES.out.put 0 (.int .i64 t.1.1)) (two_nob (by simp)) 1 (.slice A1 t.1.2.length c1)
      exact h2.more (by simp)
    · exact (HB1.out.setCell (p := ⟨w.heap.size, 0, none⟩) (Nat.le_refl _) _).setCell (p := ⟨w.heap.size, 1, none⟩) (Nat.le_refl _) _
  · rw [if_neg hck] at hrr hget
    have hkc : k < c := by omega
    have hnil : A ≠ none := fun e => by
      obtain ⟨_, _, hv, _, _, q3, _⟩ := hrow0
      injection hv with e1 _ e3
      have := q3 (e1.symm.trans e)
      omega
    obtain ⟨ad, rfl⟩ := Option.ne_none_iff_exists'.1 hnil
    rw [Option.map_some] at hrr hget
    have HG := Lib.hid hget
    have HR := Lib.hid hrr
    clear hrr hget hnil hrow0
    have HR0 := Lib.hid ((HR.out.below ((Below.refl _ _).alloc (Nat.le_refl _) (.cells #[.int .i64 0, .slice none 0 0] 78))).more (by simp : w.heap.size ≤ (w.alloc (.cells #[.int .i64 0, .slice none 0 0] 78)).heap.size))
    go_enter Tryz.func182, Tryz.ntmps182
    go_wp2_with fail
    refine (HG.out _ HR0.out).mono ?_
    rintro e w1 ⟨A1, c1, rfl, hrow1, hb1, hn1⟩
    have HN1 := Lib.hid (fun a e => Nat.le_trans (by simp : w.heap.size ≤ (w.alloc (.cells #[.int .i64 0, .slice none 0 0] 78)).heap.size) (hn1 a e)); clear hn1
    have hz1 : w.heap.size + 1 ≤ w1.heap.size := by simpa using hb1.size
    have hres : Held w1 w.heap.size 78 #[.int .i64 0, .slice none 0 0] := (hb1.block w.heap.size (by simp)).trans (heap_alloc_new w _)
    have bw1 : Below w.heap.size w w1 := ((Below.refl _ _).alloc (Nat.le_refl _) _).trans (hb1.mono (by simp))
    have hf0 := hres.frozen 0
    have hf1 := hres.frozen 1
    have hr0 := hres.cell 0
    have hr1 := hres.cell 1
    simp at hr0 hr1
    have HROW1 := Lib.hid hrow1
    have HB1 := Lib.hid bw1
    have HRES := Lib.hid hres
    clear hb1 hrow1 bw1 hres
    go_wp2_with fail
    have hfin := (HRES.out.put 0 (.int .i64 t.1.1)).put 1 (.slice A1 t.1.2.length c1)
    have e0 := hfin.cell 0
    have e1 := hfin.cell 1
    simp at e0 e1
    refine bodyPost_ret (v := .tuple #[.agg #[.int .i64 t.1.1, .slice A1 t.1.2.length c1], .int .i64 t.2.1, .int .i64 t.2.2]) (by simp [results, Tryz.results182, go_sem, e0, e1]) rfl ?_
    refine ⟨A1, c1, rfl, ?_, ?_, HN1.out⟩
    · have h1 := HROW1.out.past_put HRES.out (two_nob (by simp)) 0 (.int .i64 t.1.1)
      have h2 := h1.past_put (by simpa using HRES.out.put 0 (.int .i64 t.1.1)) (two_nob (by simp)) 1 (.slice A1 t.1.2.length c1)
      exact h2.more (by simp)
    · exact (HB1.out.setCell (p := ⟨w.heap.size, 0, none⟩) (Nat.le_refl _) _).setCell (p := ⟨w.heap.size, 1, none⟩) (Nat.le_refl _) _
theorem at_in (A : Option Addr) (c : Nat) (xs : List Int) (hsm : xs.length ≤ 9223372036854775807) (w : World) (hrow : Row w w.heap.size (.slice A xs.length c) xs) (hb : ∀ x ∈ xs, 0 ≤ x ∧ x < 256) (k : Nat) (hk : k ≤ xs.length) :
    Calls Tryz.prog 182 #[.slice A xs.length c, .int .i64 k] w (FGot w (getFr (xs.drop k))) := (at_new A c xs hsm w hrow hb k hk).mono fun _ _ h => h.got
end Go.Proofs.YtimihhcidbeonaaGreat
namespace Go.Proofs.YtimihhcidbeonaaGreat
open Go.RowKit
/-- Does Get answer one of these at a place? -/
def oneOf (ws xs : List Int) (a : Nat) : Bool := decide ((getFr (xs.drop a)).2.2 ∈ ws)
/-- The first place from frm on. -/
def firstW (ws xs : List Int) (frm : Int) : Int := firstI (oneOf ws xs) (xs.length - frm.toNat) frm.toNat
/-- What a search answers. -/
def Placed (w : World) (r : Int) (e : Ending) (w' : World) : Prop := e = .returned (.tuple #[.int .i64 (max r 0), .bool (decide (0 ≤ r))]) ∧ Below w.heap.size w w'
theorem firstW_found {ws xs : List Int} {frm : Int} {r : Nat} (h1 : frm.toNat ≤ r) (h2 : r < xs.length) (hn : ∀ j : Nat, frm.toNat ≤ j → j < r → oneOf ws xs j = false) (hr : (getFr (xs.drop r)).2.2 ∈ ws) : firstW ws xs frm = (r : Int) :=
  first_found _ _ r h1 (by omega) hn (by simp [oneOf, hr])
theorem firstW_none {ws xs : List Int} {frm : Int} (hn : ∀ j : Nat, frm.toNat ≤ j → j < xs.length → oneOf ws xs j = false) : firstW ws xs frm = -1 :=
  first_none _ _ (fun j h1 h2 => hn j h1 (by omega))
theorem placed_found {w w' : World} {r : Int} (n : Nat) (h : r = n) (hb : Below w.heap.size w w') : Placed w r (.returned (.tuple #[.int .i64 n, .bool true])) w' := by
  subst h
  refine ⟨?_, hb⟩
  rw [show max (n : Int) 0 = (n : Int) by omega, show decide (0 ≤ (n : Int)) = true by simp]
theorem placed_none {w w' : World} {r : Int} (h : r = -1) (hb : Below w.heap.size w w') : Placed w r (.returned (.tuple #[.int .i64 0, .bool false])) w' := by
  subst h
  exact ⟨rfl, hb⟩
theorem intVs_at {ws : List Int} {k : Nat} (h : k < ws.length) : (ws.map (Value.int .i64))[k]? = some (.int .i64 (ws.getD k 0)) := by simp [List.getD, List.getElem?_eq_getElem h]
set_option maxRecDepth 100000 in
set_option maxHeartbeats 2000000 in
theorem first_any (A : Option Addr) (c : Nat) (xs : List Int) (hsm : xs.length ≤ 9223372036854775807) (w : World) (hrow : Row w w.heap.size (.slice A xs.length c) xs) (hb : ∀ x ∈ xs, 0 ≤ x ∧ x < 256)
    (frm : Int) (h1 : -9223372036854775808 ≤ frm) (h2 : frm ≤ 9223372036854775807) (D : Option Addr) (dn dc : Nat) (ws : List Int) (hws : VRow w w.heap.size (.slice D dn dc) (ws.map (.int .i64))) (hwn : dn ≤ 1000) :
    Calls Tryz.prog 181 #[.slice A xs.length c, .int .i64 frm, .slice D dn dc] w (Placed w (firstW ws xs frm)) := by
  obtain ⟨hdn, _, _⟩ := hws.length
  rw [List.length_map] at hdn
  subst hdn
  have hM : max frm 0 = ((frm.toNat : Nat) : Int) := by omega
  have hm2 : frm.toNat ≤ 9223372036854775807 := by omega
  have hfound := fun r => @firstW_found ws xs frm r
  have hnone := @firstW_none ws xs frm
  have HAT := Lib.hid (fun W (h : Row W W.heap.size (.slice A xs.length c) xs) k hk => at_in A c xs hsm W h hb k hk)
  generalize firstW ws xs frm = R at hfound hnone ⊢
  generalize frm.toNat = M at hM hm2 hfound hnone
  have HF := Lib.hid hfound
  have HN := Lib.hid hnone
  have HROW := Lib.hid hrow
  have HWS := Lib.hid hws
  clear hrow hb hws hfound hnone
  go_enter Tryz.func181, Tryz.ntmps181
  go_wp2_with fail
  go_step3
  go_wp2_with fail
  go_step3
  go_wp2_with fail
  have HM := Lib.hid hM; clear hM
  go_loopg [8, 9, 10] (xs.length - M) (fun g p f i wr => ∃ a : Nat, p = .int .i64 0 ∧ f = .bool false ∧ i = .int .i64 a ∧ M ≤ a ∧ a ≤ 9223372036854775807 ∧ Hid (xs.length - a = g) ∧ Hid (∀ j : Nat, M ≤ j → j < a → oneOf ws xs j = false) ∧ Below w.heap.size w wr)
  case atStart => exact ⟨M, rfl, rfl, rfl, Nat.le_refl _, hm2, Lib.hid rfl, Lib.hid (fun j h1 h2 => by omega), Below.refl _ _⟩
  case round =>
    obtain ⟨a, rfl, rfl, rfl, ha, ha2, HG0, HO, hbw⟩ := hrel
    have hsw := hbw.size
    by_cases hlt : a < xs.length
    · have HA := Lib.hid (HAT.out wr ((HROW.out.below hbw).more hsw) a (by omega))
      generalize hT : getFr (xs.drop a) = T at HA
      have HT := Lib.hid hT; clear hT
      have HBW := Lib.hid hbw; clear hbw
      go_wp2_with fail
      refine HA.out.mono ?_
      rintro e w1 ⟨A1, c1, rfl, _, hb1⟩
      have hz1 := hb1.size
      have hbw1 : Below w.heap.size w w1 := HBW.out.trans (hb1.mono hsw)
      have HBW1 := Lib.hid (hbw1.alloc (by omega) (.cells #[.int .i64 T.1.1, .slice A1 T.1.2.length c1] 78))
      clear hb1 hbw1
      obtain ⟨er, hE⟩ : ∃ er, T.2.2 = er := ⟨_, rfl⟩
      rw [hE]
      have HE := Lib.hid hE; clear hE
      go_wp2_with fail
      obtain ⟨w2, hw2⟩ : ∃ w2, w1.alloc (.cells #[.int .i64 T.1.1, .slice A1 T.1.2.length c1] 78) = w2 := ⟨_, rfl⟩
      rw [hw2] at HBW1 ⊢
      clear hw2 hz1
      have HWS2 := Lib.hid (HWS.out.below HBW1.out)
      go_loopg [8, 9, 33] ws.length (fun g p f i wr => ∃ k : Nat, p = .int .i64 0 ∧ f = .bool false ∧ i = .int .i64 k ∧ k ≤ ws.length ∧ Hid (ws.length - k = g) ∧ Hid (∀ j : Nat, j < k → ws.getD j 0 ≠ er) ∧ w2 = wr)
      case atStart => exact ⟨0, rfl, rfl, rfl, Nat.zero_le _, Lib.hid rfl, Lib.hid (fun j h => absurd h (Nat.not_lt_zero _)), rfl⟩
      case round =>
        obtain ⟨k, rfl, rfl, rfl, hk, HG1, HJ, rfl⟩ := hrel
        by_cases hkl : k < ws.length
        · have hc : ∃ b o, D = some ⟨b, o, none⟩ ∧ w2.cell? ⟨b, o + k, none⟩ = some (.int .i64 (ws.getD k 0)) := by
            obtain ⟨_, _, hv, _, _, _, h4⟩ := HWS2.out
            injection hv with e1 _ _
            obtain ⟨b, o, e, _, hc⟩ := h4 (by rw [List.length_map]; omega)
            exact ⟨b, o, e1.trans e, hc k _ (intVs_at hkl)⟩
          obtain ⟨b, o, rfl, hck⟩ := hc
          obtain ⟨y, hy⟩ : ∃ y, ws.getD k 0 = y := ⟨_, rfl⟩
          rw [hy] at hck
          have HY := Lib.hid hy; clear hy
          by_cases hye : er = y
          · subst hye
            have hin : (getFr (xs.drop a)).2.2 ∈ ws := by
              rw [HT.out, HE.out, ← HY.out, List.getD, List.getElem?_eq_getElem hkl]
              simp
            have hR := HF.out a ha hlt HO.out hin
            have HR := Lib.hid hR
            clear hR hin
            go_wp2_with fail
            rw [Exit.noGoto_ret]
            go_ret2
            exact placed_found a HR.out HBW1.out
          · have hb1 : (er == y) = false := beq_eq_false_iff_ne.2 hye
            have hj2 : ∀ j : Nat, j < k + 1 → ws.getD j 0 ≠ er := fun j hj => by
              rcases Nat.lt_or_ge j k with h | h
              · exact HJ.out j h
              · obtain rfl : j = k := by omega
                rw [HY.out]
                exact fun e => hye e.symm
            have HJ2 := Lib.hid hj2
            clear hye hj2
            go_wp2_with fail
            go_roundg (ws.length - (k + 1))
            case measure => have := HG1.out; omega
            case rel => exact ⟨k + 1, rfl, rfl, by go_num, by omega, Lib.hid rfl, HJ2, rfl⟩
        · obtain rfl : k = ws.length := by omega
          have hno : oneOf ws xs a = false := by
            unfold oneOf
            rw [decide_eq_false_iff_not, HT.out, HE.out]
            intro hm
            obtain ⟨j, hj, e⟩ := List.getElem_of_mem hm
            exact HJ.out j hj (by rw [List.getD, List.getElem?_eq_getElem hj]; exact e)
          have ho2 : ∀ j : Nat, M ≤ j → j < a + 1 → oneOf ws xs j = false := fun j q1 q2 => by
            rcases Nat.lt_or_ge j a with h | h
            · exact HO.out j q1 h
            · obtain rfl : j = a := by omega
              exact hno
          have HO2 := Lib.hid ho2
          clear hno ho2
          go_wp2_with fail
          go_roundg (xs.length - (a + 1))
          case measure => have := HG0.out; omega
          case rel => exact ⟨a + 1, rfl, rfl, by go_num, by omega, by omega, Lib.hid rfl, HO2, HBW1.out⟩
    · have hge : xs.length ≤ a := by omega
      have hR := HN.out (fun j q1 q2 => HO.out j q1 (by omega))
      have HR := Lib.hid hR
      clear hR
      have HB := Lib.hid hbw
      clear hbw
      go_wp2_with fail
      go_ret2
      exact placed_none HR.out HB.out
end Go.Proofs.YtimihhcidbeonaaGreat
namespace Go.Proofs.YtimihhcidbeonaaGreat
open Go.RowKit
theorem firstW_next (xs : List Int) (frm : Int) : firstW [0] xs frm = nextI false xs frm := by
  unfold firstW nextI
  rw [show oneOf [0] xs = begI false xs from funext fun a => by simp only [oneOf, begI, Bool.false_and, Bool.or_false, List.mem_singleton]; rfl]
/-- A slice that was just laid. -/
theorem vrow_new (w : World) (t : TypeId) (us : List Value) (hu : us.length ≤ 1000) : VRow (w.alloc (.cells us.toArray t)) (w.alloc (.cells us.toArray t)).heap.size (.slice (some ⟨w.heap.size, 0, none⟩) us.length us.length) us := by
  refine ⟨_, _, rfl, Nat.le_refl _, by unfold maxLen; omega, fun h => by simp at h, fun _ => ⟨w.heap.size, 0, rfl, by simp, fun i u hi => ?_⟩⟩
  have h : Held (w.alloc (.cells us.toArray t)) w.heap.size t us.toArray := heap_alloc_new w _
  rw [Nat.zero_add, h.cell i]
  simpa using hi
section
variable (A : Option Addr) (c : Nat) (xs : List Int) (hsm : xs.length ≤ 9223372036854775807) (w : World) (hrow : Row w w.heap.size (.slice A xs.length c) xs) (hb : ∀ x ∈ xs, 0 ≤ x ∧ x < 256) (frm : Int) (h1 : -9223372036854775808 ≤ frm) (h2 : frm ≤ 9223372036854775807)
include hsm hrow hb h1 h2
set_option maxRecDepth 100000 in
theorem next_any : Calls Tryz.prog 135 #[.slice A xs.length c, .int .i64 frm] w (Placed w (nextI false xs frm)) := by
  have hbx : Below w.heap.size w (w.alloc (.cells #[.int .i64 0] 27)) := (Below.refl _ _).alloc (Nat.le_refl _) _
  have hf := first_any A c xs hsm _ ((hrow.below hbx).more (by simp)) hb frm h1 h2 _ 1 1 [0] (vrow_new w 27 [.int .i64 0] (by simp)) (by omega)
  rw [firstW_next] at hf
  have HF := Lib.hid hf
  have HB := Lib.hid hbx
  clear hf hrow hb hsm hbx
  go_enter Tryz.func135, Tryz.ntmps135
  go_wp2_with fail
  refine HF.out.mono ?_
  rintro e w1 ⟨rfl, hb1⟩
  have HB1 := Lib.hid (HB.out.trans (hb1.mono (by simp)))
  clear hb1
  go_wp2_with fail
  go_ret2
  exact ⟨rfl, HB1.out⟩
end
end Go.Proofs.YtimihhcidbeonaaGreat

namespace Go.Proofs.YtimihhcidbeonaaGreat
open Go.RowKit
set_option maxRecDepth 100000 in
theorem skipped_any (a r : Nat) (ha : a ≤ r) (hr : r ≤ 9223372036854775807) (w : World) :
    Calls Tryz.prog 136 #[.int .i64 a, .int .i64 r] w fun e w' => e = .returned (.agg #[.int .i64 a, .int .i64 (r - a : Nat), .bool false, .int .i64 0, .slice none 0 0]) ∧ Below w.heap.size w w' := by
  have h1 : (0 : Int) ≤ a := by omega
  have h2 : (a : Int) ≤ r := by omega
  have h3 : (r : Int) ≤ 9223372036854775807 := by omega
  have h4 : ((r - a : Nat) : Int) = (r : Int) - a := by omega
  rw [h4]
  clear h4
  go_enter Tryz.func136, Tryz.ntmps136
  go_wp2_with fail
  refine bodyPost_ret (v := .agg #[.int .i64 a, .int .i64 (r - a), .bool false, .int .i64 0, .slice none 0 0]) (by simp [results, Tryz.results136, go_sem]) rfl ?_
  exact ⟨rfl, (Below.refl _ _).alloc (Nat.le_refl _) _⟩
/-- What framePart answers of what begins at a place. -/
def Part (w : World) (k : Nat) (t : (Int × List Int) × Nat × Int) (r : Ending) (w' : World) : Prop :=
  ∃ A c, r = .returned (.agg #[.int .i64 k, .int .i64 t.2.1, .bool true, .int .i64 t.1.1, .slice A t.1.2.length c]) ∧ Row w' w'.heap.size (.slice A t.1.2.length c) t.1.2 ∧ Below w.heap.size w w'
set_option maxRecDepth 100000 in
theorem framePart_any (A : Option Addr) (c : Nat) (xs : List Int) (hsm : xs.length ≤ 9223372036854775807) (w : World) (hrow : Row w w.heap.size (.slice A xs.length c) xs) (hb : ∀ x ∈ xs, 0 ≤ x ∧ x < 256) (k : Nat) (hk : k ≤ xs.length) :
    Calls Tryz.prog 137 #[.slice A xs.length c, .int .i64 k] w (Part w k (getFr (xs.drop k))) := by
  have HAT := Lib.hid (fun W (h : Row W W.heap.size (.slice A xs.length c) xs) => at_in A c xs hsm W h hb k hk)
  have HROW := Lib.hid hrow
  clear hrow hb
  generalize getFr (xs.drop k) = t at HAT ⊢
  have k0 : (0 : Int) ≤ k := by omega
  have k1 : (k : Int) ≤ 9223372036854775807 := by omega
  go_enter Tryz.func137, Tryz.ntmps137
  go_wp2_with fail
  refine (HAT.out _ ((HROW.out.below ((Below.refl _ _).alloc (Nat.le_refl _) _)).more (by simp))).mono ?_
  rintro e w1 ⟨A1, c1, rfl, hrow1, hb1⟩
  have hz1 : w.heap.size + 1 ≤ w1.heap.size := by simpa using hb1.size
  have hres : Held w1 w.heap.size 80 #[.int .i64 0, .int .i64 0, .bool false, .int .i64 0, .slice none 0 0] := (hb1.block w.heap.size (by simp)).trans (heap_alloc_new w _)
  have bw1 : Below w.heap.size w w1 := ((Below.refl _ _).alloc (Nat.le_refl _) _).trans (hb1.mono (by simp))
  have hres2 : ∀ o : Obj, Held (w1.alloc o) w.heap.size 80 #[.int .i64 0, .int .i64 0, .bool false, .int .i64 0, .slice none 0 0] := fun o => hres.below ((Below.refl _ _).alloc (Nat.le_refl _) _) (by omega)
  have hr0 := fun o => (hres2 o).cell 0
  have hr1 := fun o => (hres2 o).cell 1
  have hr2 := fun o => (hres2 o).cell 2
  have hr3 := fun o => (hres2 o).cell 3
  have hr4 := fun o => (hres2 o).cell 4
  have hf0 := fun o => (hres2 o).frozen 0
  have hf1 := fun o => (hres2 o).frozen 1
  have hf2 := fun o => (hres2 o).frozen 2
  have hf3 := fun o => (hres2 o).frozen 3
  have hf4 := fun o => (hres2 o).frozen 4
  simp at hr0 hr1 hr2 hr3 hr4
  have HRES2 := Lib.hid hres2
  clear hres2
  have HROW1 := Lib.hid hrow1
  have HB1 := Lib.hid bw1
  have HRES := Lib.hid hres
  clear hb1 hrow1 bw1 hres
  go_wp2_with fail
  have hfin := (((((HRES2.out (.cells #[.int .i64 t.1.1, .slice A1 t.1.2.length c1] 78)).put 0 (.int .i64 k)).put 1 (.int .i64 t.2.1)).put 2 (.bool true)).put 3 (.int .i64 t.1.1)).put 4 (.slice A1 t.1.2.length c1)
  have e0 := hfin.cell 0
  have e1 := hfin.cell 1
  have e2 := hfin.cell 2
  have e3 := hfin.cell 3
  have e4 := hfin.cell 4
  simp at e0 e1 e2 e3 e4
  refine bodyPost_ret (v := .agg #[.int .i64 k, .int .i64 t.2.1, .bool true, .int .i64 t.1.1, .slice A1 t.1.2.length c1]) (by simp [results, Tryz.results137, go_sem, e0, e1, e2, e3, e4]) rfl ?_
  refine ⟨A1, c1, rfl, ?_, ?_⟩
  · refine (HROW1.out.keep_but (g := w.heap.size) (fun k hk hn => ?_) (fun i n => ?_)).more (by simp)
    · rw [Below.heap_setCell _ _ _ k hn, Below.heap_setCell _ _ _ k hn, Below.heap_setCell _ _ _ k hn, Below.heap_setCell _ _ _ k hn, Below.heap_setCell _ _ _ k hn, Below.heap_alloc _ _ _ hk]
    · rw [HRES.out.cell]
      match i with
      | 0 => simp
      | 1 => simp
      | 2 => simp
      | 3 => simp
      | 4 => simp
      | i + 5 => simp
  · exact (((((HB1.out.alloc (by omega) _).setCell (p := ⟨w.heap.size, 0, none⟩) (Nat.le_refl _) _).setCell (p := ⟨w.heap.size, 1, none⟩) (Nat.le_refl _) _).setCell (p := ⟨w.heap.size, 2, none⟩) (Nat.le_refl _) _).setCell (p := ⟨w.heap.size, 3, none⟩) (Nat.le_refl _) _).setCell (p := ⟨w.heap.size, 4, none⟩) (Nat.le_refl _) _
end Go.Proofs.YtimihhcidbeonaaGreat
namespace Go.Proofs.YtimihhcidbeonaaGreat
open Go.RowKit
/-- A part, and where its frame's payload lies. -/
structure Pt where
  s : Sg
  A : Option Addr
  c : Nat
/-- Its payload's value. -/
abbrev Pt.pv (p : Pt) : Value := .slice p.A p.s.pay.length p.c
/-- Its cells. -/
def Pt.cells (p : Pt) : List Value := [.int .i64 p.s.frm, .int .i64 p.s.n, .bool p.s.isf, .int .i64 p.s.kind, .slice p.A p.s.pay.length p.c]
/-- Its value. -/
abbrev Pt.val (p : Pt) : Value := .agg #[.int .i64 p.s.frm, .int .i64 p.s.n, .bool p.s.isf, .int .i64 p.s.kind, .slice p.A p.s.pay.length p.c]
/-- Its payload reads as it. -/
def Pt.Reads (w : World) (B : Nat) (p : Pt) : Prop := Row w B p.pv p.s.pay
/-- The cells of parts, one behind the other. -/
def flatS : List Pt → List Value
  | [] => []
  | p :: l => p.cells ++ flatS l
theorem flatS_length : ∀ l : List Pt, (flatS l).length = l.length * 5
  | [] => rfl
  | p :: l => by
    rw [flatS, List.length_append, flatS_length l, List.length_cons, show p.cells.length = 5 from rfl]
    omega
theorem flatS_append : ∀ l m : List Pt, flatS (l ++ m) = flatS l ++ flatS m
  | [], _ => rfl
  | p :: l, m => by rw [List.cons_append, flatS, flatS, flatS_append l m, List.append_assoc]
theorem flatS_one (p : Pt) : flatS [p] = p.cells := by rw [flatS, flatS, List.append_nil]
theorem cells_one (p : Pt) : ∀ u ∈ p.cells, u.oneCell' = true := by
  intro u hu
  simp only [Pt.cells, List.mem_cons, List.not_mem_nil, or_false] at hu
  rcases hu with rfl | rfl | rfl | rfl | rfl <;> rfl
theorem cells_nob (p : Pt) : ∀ u ∈ p.cells, ∀ n : Int, u ≠ .int .u8 n := by
  intro u hu n
  simp only [Pt.cells, List.mem_cons, List.not_mem_nil, or_false] at hu
  rcases hu with rfl | rfl | rfl | rfl | rfl <;> simp
theorem flatS_nob : ∀ l : List Pt, ∀ u ∈ flatS l, ∀ n : Int, u ≠ .int .u8 n
  | [], u, hu, _ => by simp [flatS] at hu
  | p :: l, u, hu, n => by
    rw [flatS] at hu
    rcases List.mem_append.1 hu with h | h
    · exact cells_nob p u h n
    · exact flatS_nob l u h n
/-- No byte stands in the block of a slice's own row. -/
def Clean (w : World) (v : Value) : Prop := ∀ g, v.ownBlock = some g → ∀ (i : Nat) (n : Int), w.cell? ⟨g, i, none⟩ ≠ some (.int .u8 n)
/-- A slice of parts of the call's own. -/
def Segs (w : World) (n0 : Nat) (v : Value) (ps : List Pt) : Prop :=
  w.ownsRow n0 80 5 v ps.length (flatS ps) ∧ Clean w v ∧ ∀ p ∈ ps, p.Reads w w.heap.size
section
variable {w w' : World} {n0 B : Nat} {v : Value} {ps : List Pt}
theorem Pt.Reads.below {p : Pt} (h : p.Reads w w.heap.size) (hb : Below w.heap.size w w') : p.Reads w' w'.heap.size := (Row.below h hb).more hb.size
/-- What turns blocks alone in which no byte stands turns no payload. -/
theorem Pt.Reads.grown {p : Pt} {row : Option Nat} (h : p.Reads w w.heap.size) (hg : w.grownBy w' row) (hr : ∀ k, row = some k → ∀ (i : Nat) (n : Int), w.cell? ⟨k, i, none⟩ ≠ some (.int .u8 n)) : p.Reads w' w'.heap.size := by
  refine Row.more (w := w') ?_ hg.size
  cases row with
  | none => exact h.keep fun a ha => World.cell?_of_block (hg.block a.block ha (by simp))
  | some g => exact h.keep_but (g := g) (fun k hk hn => hg.block k hk (fun e => hn (by injection e))) (hr g rfl)
theorem Segs.nil (w : World) (n0 : Nat) : Segs w n0 (.slice none 0 0) [] := ⟨World.ownsRow_nil _ _ _ _, fun g h => by simp [Value.ownBlock] at h, by simp⟩
/-- What turns another block, in which no byte stands. -/
theorem Segs.kept {row : Option Nat} (h : Segs w n0 v ps) (hg : w.grownBy w' row) (hne : v.ownBlock = none ∨ v.ownBlock ≠ row) (hr : ∀ k, row = some k → ∀ (i : Nat) (n : Int), w.cell? ⟨k, i, none⟩ ≠ some (.int .u8 n)) : Segs w' n0 v ps := by
  obtain ⟨h1, h2, h3⟩ := h
  refine ⟨h1.kept hg hne, fun g e i n => ?_, fun p hp => (h3 p hp).grown hg hr⟩
  have hlt := (h1.lt g e).2
  rw [World.cell?_of_block (a := ⟨g, i, none⟩) (hg.block g hlt (fun e2 => hne.elim (fun h => by rw [e] at h; cases h) (fun h => h (e.trans e2.symm.symm))))]
  exact h2 g e i n
theorem Segs.below (h : Segs w n0 v ps) (hb : Below w.heap.size w w') : Segs w' n0 v ps :=
  h.kept (row := none) ⟨hb.os, hb.tape, hb.output, hb.size, fun k hk _ => hb.block k hk⟩ (Classical.em _) (fun k e => by cases e)
theorem Segs.alloc (h : Segs w n0 v ps) (o : Obj) : Segs (w.alloc o) n0 v ps := h.below ((Below.refl _ _).alloc (Nat.le_refl _) o)
theorem Segs.putObj {l : Nat} {o : Obj} (h : Segs w n0 v ps) (o' : Obj) (hl : w.heap[l]? = some o) (ho : o.isCells = false) : Segs (w.putObj l o') n0 v ps := by
  refine h.kept (grownBy_putObj' w l o') ?_ (fun k e i n hc => ?_)
  · rcases h.1.2 with ⟨rfl, _⟩ | ⟨g, cap, cur, rfl, _, hgb, _⟩
    · exact .inl rfl
    · refine .inr fun e => ?_
      obtain rfl : g = l := by simpa [Value.ownBlock] using e
      rw [hgb] at hl
      cases hl
      cases ho
  · obtain rfl : l = k := by injection e
    obtain ⟨o2, ho2, hc2⟩ := cells_of_cell hc
    rw [show w.heap[l]? = some o from hl] at ho2
    cases ho2
    rw [ho] at hc2
    cases hc2
/-- What turns no cells. -/
def Turned (w w' : World) (row : Option Nat) : Prop := w.grownBy w' row ∧ ∀ r, row = some r → ∃ o : Obj, w.heap[r]? = some o ∧ o.isCells = false
theorem Turned.nob {row : Option Nat} (h : Turned w w' row) : ∀ k, row = some k → ∀ (i : Nat) (n : Int), w.cell? ⟨k, i, none⟩ ≠ some (.int .u8 n) := by
  intro k e i n hc
  obtain ⟨o, ho, hn⟩ := h.2 k e
  obtain ⟨o2, ho2, hc2⟩ := cells_of_cell hc
  rw [show w.heap[k]? = some o from ho] at ho2
  cases ho2
  rw [hn] at hc2
  cases hc2
theorem Turned.block {row : Option Nat} (h : Turned w w' row) {g : Nat} {cs : Array Value} {t : TypeId} {fr : Nat × Nat} (hg : w.heap[g]? = some (.cells cs t fr)) : w'.heap[g]? = some (.cells cs t fr) := by
  refine (h.1.block g (Array.getElem?_eq_some_iff.1 hg).1 fun e => ?_).trans hg
  obtain ⟨o, ho, hn⟩ := h.2 g e.symm
  rw [hg] at ho
  cases ho
  cases hn
theorem Segs.turned {row : Option Nat} (h : Segs w n0 v ps) (ht : Turned w w' row) : Segs w' n0 v ps := by
  refine h.kept ht.1 ?_ ht.nob
  rcases h.1.2 with ⟨rfl, _⟩ | ⟨g, cap, cur, rfl, _, hgb, _⟩
  · exact .inl rfl
  · refine .inr fun e => ?_
    obtain ⟨o, ho, hn⟩ := ht.2 g (by rw [← e]; rfl)
    rw [hgb] at ho
    cases ho
    cases hn
theorem Pt.Reads.turned {p : Pt} {row : Option Nat} (h : p.Reads w w.heap.size) (ht : Turned w w' row) : p.Reads w' w'.heap.size := h.grown ht.1 ht.nob
/-- A row of one's own of another type's elements lies elsewhere. -/
theorem Segs.apart {g : Nat} {t : TypeId} {cs : Array Value} {fr : Nat × Nat} (h : Segs w n0 v ps) (hg : w.heap[g]? = some (.cells cs t fr)) (ht : t ≠ 80) : v.ownBlock = none ∨ v.ownBlock ≠ some g := by
  rcases h.1.2 with ⟨rfl, _⟩ | ⟨g', cap, cur, rfl, _, hgb, _⟩
  · exact .inl rfl
  · refine .inr fun e => ?_
    obtain rfl : g' = g := by simpa [Value.ownBlock] using e
    rw [hgb] at hg
    injection hg with hg
    injection hg with _ e3 _
    exact ht e3.symm
theorem Segs.form (h : Segs w n0 v ps) : ∃ A c, v = .slice A ps.length c ∧ ps.length ≤ c ∧ c ≤ 9223372036854775807 := by
  rcases h.1.2 with ⟨rfl, h0⟩ | ⟨g, cap, cur, rfl, _, _, h1, h2, _⟩
  · exact ⟨none, 0, by rw [h0], by omega, by omega⟩
  · unfold maxLen at h2
    exact ⟨_, cap, rfl, h1, by omega⟩
end
/-- append of a part behind a slice of parts of the call's own. -/
theorem run_append_seg {P : Program} (w : World) (t ty : TypeId) (i : TypeInfo) (z : Value) (ht : P.underlying t = some (.slice 80)) (hi : P.info? 80 = some i) (hz : i.zero = some z)
    (hsize : i.size = 5) (hby : i.bytes ≤ 100) (hzs : z.cells = #[.int .i64 0, .int .i64 0, .bool false, .int .i64 0, .slice none 0 0])
    (n0 : Nat) (v : Value) (ps : List Pt) (hs : Segs w n0 v ps) (ad : Addr) (c : Nat) (p : Pt) (hc : ∀ j u, p.cells[j]? = some u → w.cell? (ad.add j) = some u) (hp : p.Reads w w.heap.size)
    (hlen : ps.length + 1 ≤ 1000000000000) (hbase : n0 ≤ w.heap.size) :
    ∃ v' w', (Builtin.append_ #[t, t] ty #[v, .slice (some ad) 1 c]).run P w = .ok v' w' ∧ Segs w' n0 v' (ps ++ [p]) ∧ w.grownBy w' v.ownBlock := by
  have hl5 : p.cells.length = 1 * 5 := rfl
  have hb2 : (ps.length + 1) * i.bytes ≤ 140737488355328 := Nat.le_trans (Nat.mul_le_mul hlen hby) (by omega)
  have hm : ps.length + 1 ≤ maxLen := by unfold maxLen; omega
  obtain ⟨v', w', hrun, hown, hgr, _⟩ := run_append_own (P := P) w n0 t ty _ i z 5 i.bytes ht hi hz hsize rfl (by rw [hzs]; rfl) (by omega) v ps.length (flatS ps) hs.1 ad 1 c p.cells hl5 hc (cells_one p) hm hb2 hbase
  refine ⟨v', w', hrun, ⟨by simpa [flatS_append, flatS_one] using hown, ?_, fun q hq => ?_⟩, hgr⟩
  · -- what it comes to, written out
    have hzb : ∀ (k : Nat) (u : Value), u ∈ (Builtin.zeroCells z.cells k).toList → ∀ n : Int, u ≠ .int .u8 n := by
      intro k u hu n
      simp only [Builtin.zeroCells, hzs] at hu
      simp at hu
      obtain ⟨a, _, rfl⟩ := hu
      have ha : a % 5 = 0 ∨ a % 5 = 1 ∨ a % 5 = 2 ∨ a % 5 = 3 ∨ a % 5 = 4 := by omega
      rcases ha with e | e | e | e | e <;> rw [e] <;> simp
    have new : ∀ (cur : Array Value), (∀ u ∈ cur.toList, ∀ n : Int, u ≠ .int .u8 n) → ∀ (i : Nat) (n : Int), (w.drew.alloc (.cells cur 80)).cell? ⟨w.heap.size, i, none⟩ ≠ some (.int .u8 n) := by
      intro cur hcur i n e
      rw [cell_of_row _ w.heap.size i cur _ (0, 0) (heap_alloc_new w.drew _)] at e
      exact hcur _ (by obtain ⟨hlt, he⟩ := Array.getElem?_eq_some_iff.1 e; rw [← he]; exact Array.getElem_mem_toList hlt) n rfl
    intro g hg i' n
    rcases hs.1.2 with ⟨rfl, h0⟩ | ⟨b, cap, cur, rfl, _, hgb, hnc, hcm, hcs, htake⟩
    · have hr := run_append_nil (P := P) w t ty _ i z ht hi hz ad 1 c p.cells (by rw [hsize]; exact hl5) hc (by omega) (by omega) (by omega)
      rw [hrun] at hr
      injection hr with e1 e2
      subst e1 e2
      obtain rfl : w.heap.size = g := by simpa [Value.ownBlock] using hg
      refine new _ (fun u hu => ?_) i' n
      simp only [Array.toList_append, List.mem_append] at hu
      rcases hu with hu | hu
      · exact cells_nob p u hu
      · exact hzb _ u hu
    · by_cases hroom : ps.length + 1 ≤ cap
      · have hr := run_append_room (P := P) w t ty _ i ht hi b ps.length cap cur hgb ad 1 c p.cells (by rw [hsize]; exact hl5) hc (cells_one p) hroom (by rw [hsize, hcs, hl5]; omega)
        rw [hrun] at hr
        injection hr with e1 e2
        subst e1 e2
        obtain rfl : b = g := by simpa [Value.ownBlock] using hg
        rw [cell_setRow_same w b i' cur _ _ _ hgb]
        intro e
        have hmem : (Value.int .u8 n) ∈ cur.toList.take (ps.length * i.size) ++ p.cells ++ cur.toList.drop (ps.length * i.size + p.cells.length) := by
          rw [List.getElem?_toArray] at e
          exact List.mem_of_getElem? e
        have hold : ∀ u ∈ cur.toList, ∀ n : Int, u ≠ .int .u8 n := by
          intro u hu n e
          obtain ⟨k, hk⟩ := List.mem_iff_getElem?.1 hu
          refine hs.2.1 b rfl k n ?_
          rw [cell_of_row w b k cur _ _ hgb, ← e]
          simpa using hk
        rcases List.mem_append.1 hmem with h | h
        · rcases List.mem_append.1 h with h | h
          · exact hold _ (List.mem_of_mem_take h) n rfl
          · exact cells_nob p _ h n rfl
        · exact hold _ (List.mem_of_mem_drop h) n rfl
      · have hr := run_append_grow (P := P) w t ty _ i z ht hi hz ⟨b, 0, none⟩ ps.length cap (flatS ps) (by rw [hsize]; exact flatS_length ps) (hs.1.cells (g := b) rfl) ad 1 c p.cells (by rw [hsize]; exact hl5) hc (by omega) (by omega) (growslice_fits (by omega) hb2)
        rw [hrun] at hr
        injection hr with e1 e2
        subst e1 e2
        obtain rfl : w.heap.size = g := by simpa [Value.ownBlock] using hg
        refine new _ (fun u hu => ?_) i' n
        simp only [Array.toList_append, List.mem_append] at hu
        rcases hu with (hu | hu) | hu
        · exact flatS_nob ps u hu
        · exact cells_nob p u hu
        · exact hzb _ u hu
  · rcases List.mem_append.1 hq with h | h
    · exact (hs.2.2 q h).grown hgr hs.2.1
    · obtain rfl : q = p := by simpa using h
      exact hp.grown hgr hs.2.1
/-- The same inside a fence. -/
theorem wpListIn_append_seg {F : Fence} {n : Nat} {P : Program} {w : World} {ops : Array Oper} {rest : List Oper} {o : Oper} {a : Act} {Q : Exit → Act → World → Prop} (hgd : o.guard = none) (s x : Operand) (t : TypeId)
    (ho : o.op = Op.call { callee := Callee.builtin Builtin.append, args := #[s, x], argTypes := #[t, t] })
    (i : TypeInfo) (z : Value) (ht : P.underlying t = some (.slice 80)) (hi : P.info? 80 = some i) (hz : i.zero = some z)
    (hsize : i.size = 5) (hby : i.bytes ≤ 100) (hzs : z.cells = #[.int .i64 0, .int .i64 0, .bool false, .int .i64 0, .slice none 0 0])
    (n0 : Nat) (v : Value) (ps : List Pt) (hs : a.eval s = v) (hown : Segs w n0 v ps) (ad : Addr) (c : Nat) (p : Pt) (hx : a.eval x = .slice (some ad) 1 c) (hc : ∀ j u, p.cells[j]? = some u → w.cell? (ad.add j) = some u) (hp : p.Reads w w.heap.size)
    (hlen : ps.length + 1 ≤ 1000000000000) (hbase : n0 ≤ w.heap.size)
    (h : ∀ v' w', Segs w' n0 v' (ps ++ [p]) → w.grownBy w' v.ownBlock → wpListIn F n P ops Q rest (a.put o.dst v') w') : wpListIn F n P ops Q (o :: rest) a w := by
  refine wpListIn_plain hgd fun K hK' => ?_
  obtain ⟨v', w', hrun, h2, h3⟩ := run_append_seg (P := P) w t o.type i z ht hi hz hsize hby hzs n0 v ps hown ad c p hc hp hlen hbase
  unfold Oper.wpIn
  refine ⟨?_, ?_⟩
  · simp [Oper.about, ho, resolve, Target.leads, Sem.run_pure]
  · rw [Oper.semAt_plain F _ _ (by rw [ho]; intro c hc'; cases hc')]
    simp [execOp, ho, resolve, invoke, builtin, hs, hx, hrun, Result.andThen]
    exact hK' _ _ (h v' w' h2 h3)
theorem Tryz.infoSeg : (Tryz.prog.info? 80).map (fun i => (i.zero, i.size, i.bytes)) = some (some (.agg #[.int .i64 0, .int .i64 0, .bool false, .int .i64 0, .slice none 0 0]), 5, 56) := by kernel_rfl
end Go.Proofs.YtimihhcidbeonaaGreat
namespace Go.Proofs.YtimihhcidbeonaaGreat
open Go.RowKit
theorem map_snoc (pre : List Pt) (x : Pt) : (pre ++ [x]).map (·.s) = pre.map (·.s) ++ [x.s] := by simp
/-- What is collected: the parts, in a slice of the call's own. -/
def Collected (xs : List Int) (w : World) (e : Ending) (w' : World) : Prop :=
  ∃ v ps, e = .returned v ∧ PartsS xs 0 (ps.map (·.s)) ∧ Segs w' w.heap.size v ps ∧ Below w.heap.size w w'
end Go.Proofs.YtimihhcidbeonaaGreat

namespace Go.Proofs.YtimihhcidbeonaaGreat
open Go.RowKit Go.Shelf
set_option linter.unusedVariables false
attribute [local go_sem] Oper.semAt_some
/-- Between two rounds: so many parts in a box, a number in another one. -/
def FrI (w : World) (N0 : Nat) (p q : Value) (pre : List By) (W : World) : Prop :=
  (∃ v us, Boxed W N0 76 v ∧ W.ownsRow N0 80 5 v pre.length us) ∧ (∃ x : Int, Boxed W (N0 + 1) 3 (.int .i64 x)) ∧ Below N0 w W ∧ Boxed W (N0 + 2) 45 p ∧ Boxed W (N0 + 3) 3 q
def FrA (w : World) (N0 : Nat) (p q : Value) (fr : By → Act) (m : Nat) (pre : List By) (x : By) (a : Act) (W : World) : Prop := a = fr x ∧ FrI w N0 p q pre W ∧ ByOk x W
section
variable {w w' : World} {N0 b m : Nat} {p q : Value} {fr : By → Act} {pre : List By} {x : By}
theorem frI_own (hn : N0 ≤ w.heap.size) (hb : N0 ≤ b) : OwnFrom b (FrI w N0 p q) := by
  rintro pre X Y row ⟨⟨v, us, h1, h2⟩, ⟨z, h3⟩, h4, h5, h6⟩ hg hr
  obtain ⟨v', k1, k2, -⟩ := ((holdsRow_own (β := Unit) N0 N0 76 80 5 (fun _ => pre.length) (fun _ => us) (fun _ _ => True)).from b) () X Y row ⟨v, h1, h2, trivial⟩ hg hr
  exact ⟨⟨v', us, k1, k2⟩, ⟨z, ((boxed_own (β := Unit) (N0 + 1) 3 (fun _ => .int .i64 z)).from b) () X Y row h3 hg hr⟩, (ownFrom_below (β := Unit) hn hb) () X Y row h4 hg hr, ((boxed_own (β := Unit) (N0 + 2) 45 (fun _ => p)).from b) () X Y row h5 hg hr, ((boxed_own (β := Unit) (N0 + 3) 3 (fun _ => q)).from b) () X Y row h6 hg hr⟩
theorem frA_own {a : Act} (hn : N0 ≤ w.heap.size) (hb : N0 ≤ b) : OwnFrom b (fun (_ : Unit) W => FrA w N0 p q fr m pre x a W) := by
  rintro _ X Y row ⟨e, h1, h2, h3⟩ hg hr
  exact ⟨e, frI_own hn hb pre X Y row h1 hg hr, row_turned h2 hg (fun r e => (hr r e).2), h3⟩
/-- append of any row, inside a fence. -/
theorem wpListIn_append_erow {F : Fence} {n : Nat} {P : Program} (w : World) {ops : Array Oper} {rest : List Oper} {o : Oper} {a : Act} {Q : Exit → Act → World → Prop}
    (hg : o.guard = none) (s x : Operand) (t e : TypeId) (hop : o.op = Op.call { callee := Callee.builtin Builtin.append, args := #[s, x], argTypes := #[t, t] })
    (base : Nat) (i : TypeInfo) (z : Value) (size bytes : Nat) (ht : P.underlying t = some (.slice e)) (hi : P.info? e = some i) (hz : i.zero = some z) (hsize : i.size = size) (hby : i.bytes = bytes) (hzs : z.cells.size = size) (hsz : 0 < size)
    (v : Value) (k : Nat) (xs : List Value) (hs : a.eval s = v) (hown : w.ownsRow base e size v k xs) (B : Nat) (sv : Value) (m : Nat) (us : List Value) (hx : a.eval x = sv) (hr : ERow w B sv m us) (hl : us.length = m * size) (h1 : ∀ u ∈ us, u.oneCell' = true)
    (h63 : k + m ≤ maxLen) (hbytes : (k + m) * bytes ≤ 140737488355328) (hbase : base ≤ w.heap.size) (N : Nat) (hN : k + m = N) (ys : List Value) (hys : xs ++ us = ys)
    (hK : ∀ A c w', w'.ownsRow base e size (.slice A N c) N ys → w.grownBy w' v.ownBlock → ((Value.slice A N c).ownBlock = v.ownBlock ∨ (Value.slice A N c).ownBlock = some w.heap.size) → wpListIn F n P ops Q rest (a.put o.dst (.slice A N c)) w') :
    wpListIn F n P ops Q (o :: rest) a w := by
  subst hN hys
  obtain ⟨v', w', hrun, h2, h3, h4⟩ := run_append_erow_at (P := P) w base t o.type e i z size bytes ht hi hz hsize hby hzs hsz v k xs hown B sv m us hr hl h1 h63 hbytes hbase
  obtain ⟨A, c, rfl⟩ := own_form h2
  refine wpListIn_plain hg fun K hK' => ?_
  unfold Oper.wpIn
  refine ⟨?_, ?_⟩
  · simp [Oper.about, hop, resolve, Target.leads, Sem.run_pure]
  · rw [Oper.semAt_plain F _ _ (by rw [hop]; intro c hc'; cases hc')]
    simp [execOp, hop, resolve, invoke, builtin, hs, hx, hrun, Result.andThen]
    exact hK' _ _ (hK A c w' h2 h3 h4)
/-- What a round leaves. -/
theorem fr_round {W u w1 : World} {v v' : Value} {us ys : List Value} {z z' : Int} (hn : N0 ≤ w.heap.size) (hv : Boxed W N0 76 v) (ho : u.ownsRow N0 80 5 v pre.length us) (hf : Boxed W (N0 + 1) 3 (.int .i64 z)) (hb : Below N0 w W) (h1 : Boxed W (N0 + 2) 45 p) (h2 : Boxed W (N0 + 3) 3 q) (hbu : Below W.heap.size W u)
    (ho' : w1.ownsRow N0 80 5 v' (pre.length + 1) ys) (hg : u.grownBy w1 v.ownBlock) :
    Boxed w1 N0 76 v ∧ Boxed (w1.setCell ⟨N0, 0, none⟩ v') (N0 + 1) 3 (.int .i64 z) ∧ KeepsFrom b W ((w1.setCell ⟨N0, 0, none⟩ v').setCell ⟨N0 + 1, 0, none⟩ (.int .i64 z')) ∧ KeepsF N0 (N0 + 2) (N0 + 3) m W ((w1.setCell ⟨N0, 0, none⟩ v').setCell ⟨N0 + 1, 0, none⟩ (.int .i64 z')) ∧ FrI w N0 p q (pre ++ [x]) ((w1.setCell ⟨N0, 0, none⟩ v').setCell ⟨N0 + 1, 0, none⟩ (.int .i64 z')) := by
  have hnW : N0 ≤ W.heap.size := Nat.le_trans hn hb.size
  have hnu : N0 ≤ u.heap.size := Nat.le_trans hnW hbu.size
  have e1 : 76 ≠ 80 := by decide
  have e2 : 45 ≠ 80 := by decide
  have e3 : 3 ≠ 80 := by decide
  have up : ∀ {i : Nat} {t : TypeId} {y : Value}, Boxed W i t y → Boxed u i t y := fun h => (hbu.block _ h.lt).trans h
  obtain ⟨g1, g2, g3, g4⟩ := boxed_grown (up hv) e1 ho hnu (Nat.le_refl _) ho' hg
  have k0 : Boxed w1 (N0 + 1) 3 (.int .i64 z) := (up hf).kept hg ((up hf).not_row e3 ho)
  have k1 : Boxed w1 (N0 + 2) 45 p := (up h1).kept hg ((up h1).not_row e2 ho)
  have k2 : Boxed w1 (N0 + 3) 3 q := (up h2).kept hg ((up h2).not_row e3 ho)
  have j0 : Boxed (w1.setCell ⟨N0, 0, none⟩ v') (N0 + 1) 3 (.int .i64 z) := k0.other (by omega) v'
  have k3 := Boxed.other (B' := N0 + 1) (Boxed.other (B' := N0) k1 (by omega) v') (by omega) (.int .i64 z')
  have k4 := Boxed.other (B' := N0 + 1) (Boxed.other (B' := N0) k2 (by omega) v') (by omega) (.int .i64 z')
  have j1 := j0.set (.int .i64 z')
  have m0 := Boxed.other (B' := N0 + 1) g2 (by omega) (.int .i64 z')
  have hk : KeepsOthers W u := ⟨hbu.size, fun k o hk _ => (hbu.block k (Array.getElem?_eq_some_iff.1 hk).1).trans hk⟩
  have hB : Below N0 W ((w1.setCell ⟨N0, 0, none⟩ v').setCell ⟨N0 + 1, 0, none⟩ (.int .i64 z')) := ((hbu.mono hnW).trans g4).trans (below_put _ (by omega))
  refine ⟨g1, j0, ?_, ⟨hB, k3.trans (show W.heap[N0 + 2]? = _ from h1).symm, k4.trans (show W.heap[N0 + 3]? = _ from h2).symm⟩, ⟨v', ys, m0, ?_⟩, ⟨z', j1⟩, hb.trans hB, k3, k4⟩
  · refine (((hk.trans (KeepsOthers.of_grownBy hg fun j o ej hj => ?_)).trans (KeepsOthers.setCell _ _ _)).trans (KeepsOthers.setCell _ _ _)).from _
    rcases ho.2 with ⟨rfl, _⟩ | ⟨gg, cap, cur, rfl, _, hgb, _⟩
    · simp [Value.ownBlock] at ej
    · obtain rfl : gg = j := by simpa [Value.ownBlock] using ej
      rw [hgb] at hj
      cases hj
      rfl
  · rw [List.length_append, List.length_singleton]
    exact g3.kept (grownBy_setCell' _ (N0 + 1) _) (.inr (j0.not_row e3 g3).symm)
end
section
variable (w : World) (A : Option Addr) (c : Nat) (ds : List Pd) (T : Option Addr) (ct : Nat) (ps : List Pm) (most : Int)
set_option maxRecDepth 100000 in
set_option maxHeartbeats 4000000 in
theorem wframes_ok (hrow : PredRow w w.heap.size (.slice A ds.length c) ds) (ht : TrRow w w.heap.size (.slice T ps.length ct) ps) (hft : TrFit ps) (hl : ps.length ≤ 1000000) (hy : whyC (ds.map (·.p)) ps most = 0) :
    Calls Tryz.prog 42 #[.slice A ds.length c, .slice T ps.length ct, .int .i64 most] w fun e w' => ∃ FA fc, e = .returned (.tuple #[.slice FA (1 + (cutsC (ds.map (·.p)) ps most).length) fc, .int .i64 0]) ∧ Below w.heap.size w w' := by
  have hck := COk.length (cok_of hy ht.fits) _ rfl
  have HLN := Lib.hid (show ∀ (bs : List Bk), bs.map (fun b => b.ps.map (·.p)) = (cutsC (ds.map (·.p)) ps most).map (List.map (·.p)) → bs.length ≤ 1000000 ∧ bs.length = (cutsC (ds.map (·.p)) ps most).length from fun bs h => by
    have h1 := congrArg List.length h
    rw [List.length_map, List.length_map] at h1
    refine ⟨?_, h1⟩
    unfold cutsC at h1
    rw [cutsOf_length] at h1
    omega)
  have HW := Lib.hid (wwhole_ok w A c ds T ct ps most hrow ht hft hy)
  clear hrow ht hft hy hck
  obtain ⟨M, hM⟩ : ∃ M, (cutsC (ds.map (·.p)) ps most).length = M := ⟨_, rfl⟩
  rw [hM] at HLN ⊢
  clear hM
  obtain ⟨i5, hi5, hb0, hb1, hb2⟩ := info_parts Tryz.infoSeg
  refine (callsIn_wide (n := 5)).1 ?_
  refine callsIn_of_wp_marks Tryz.func42 rfl trivial ?_ rfl
  simp only [Tryz.ntmps42, List.size_toArray, List.length_cons, List.length_nil, Nat.reduceAdd, Nat.reduceSub, Array.replicate_succ, Array.replicate_zero, List.push_toArray, List.append_toArray, List.nil_append, List.cons_append]
  gi_wp2_with fail
  refine ⟨trivial, ?_⟩
  refine (callsIn_wide.2 HW.out).mono ?_
  rintro e wa ⟨g, KA, kc, bs, rfl, hw, hm, hba⟩
  have HLB := Lib.hid (HLN.out bs hm)
  have HBA := Lib.hid hba
  obtain ⟨N0, hN0⟩ : ∃ N0, wa.heap.size = N0 := ⟨_, rfl⟩
  have HWA := Lib.hid hw
  have y3 := hw.cells.2.2.2.1
  have hgl := hw.held.lt
  obtain ⟨-, kl1, kl2⟩ := (ERow.of_own hw.blk.1).len
  clear hw hm hba
  have c4 : ((wa.alloc (.cells #[.slice none 0 0] 76)).alloc (.cells #[.int .i64 0] 3)).cell? ⟨g, 3, none⟩ = some (.slice KA bs.length kc) := by
    have b4 : Below N0 wa ((wa.alloc (.cells #[.slice none 0 0] 76)).alloc (.cells #[.int .i64 0] 3)) := by rw [← hN0]; exact ((Below.refl _ _).alloc (Nat.le_refl _) _).alloc (by simp) _
    exact (b4.cell (p := ⟨g, 3, none⟩) (show g < N0 by omega)).trans y3
  gi_wp2_with (refine ⟨trivial, ?_⟩; gi_at_call 87; refine (callsIn_wide.2 (wframes_any _ _ _)).mono ?_; rintro e w3 ⟨rfl, rfl⟩)
  obtain ⟨W4, hW4⟩ : ∃ W4, (wa.alloc (.cells #[.slice none 0 0] 76)).alloc (.cells #[.int .i64 0] 3) = W4 := ⟨_, rfl⟩
  have s4 : W4.heap.size = N0 + 2 := by rw [← hW4]; simp [hN0]
  have b4 : Below N0 wa W4 := by rw [← hW4, ← hN0]; exact ((Below.refl _ _).alloc (Nat.le_refl _) _).alloc (by simp) _
  obtain ⟨w2, hw2⟩ : ∃ w2, (W4.alloc (.cells #[.pointer (some ⟨g, 0, none⟩)] 45)).alloc (.cells #[.int .i64 bs.length] 3) = w2 := ⟨_, rfl⟩
  have s2 : w2.heap.size = N0 + 4 := by rw [← hw2]; simp [s4]
  have b42 : Below (N0 + 2) W4 w2 := by rw [← hw2, ← s4]; exact ((Below.refl _ _).alloc (Nat.le_refl _) _).alloc (by simp) _
  have b2 : Below N0 wa w2 := b4.trans (b42.mono (by omega))
  have v0 : Boxed w2 N0 76 (.slice none 0 0) := by
    have := (Boxed.new wa 76 (.slice none 0 0)).alloc (.cells #[.int .i64 0] 3)
    rw [hW4, hN0] at this
    exact (b42.block N0 (by omega)).trans this
  have v1 : Boxed w2 (N0 + 1) 3 (.int .i64 0) := by
    have := Boxed.new (wa.alloc (.cells #[.slice none 0 0] 76)) 3 (.int .i64 0)
    rw [hW4, World.size_alloc, hN0] at this
    exact (b42.block (N0 + 1) (by omega)).trans this
  have v2 : Boxed w2 (N0 + 2) 45 (.pointer (some ⟨g, 0, none⟩)) := by
    have := (Boxed.new W4 45 (.pointer (some ⟨g, 0, none⟩))).alloc (.cells #[.int .i64 bs.length] 3)
    rw [hw2, s4] at this
    exact this
  have v3 : Boxed w2 (N0 + 3) 3 (.int .i64 bs.length) := by
    have := Boxed.new (W4.alloc (.cells #[.pointer (some ⟨g, 0, none⟩)] 45)) 3 (.int .i64 bs.length)
    rw [hw2, World.size_alloc, s4] at this
    exact this
  have hrd : WRd w2 N0 g A c ds false KA kc bs := by rw [← hN0]; exact HWA.out.rd.below (by rw [hN0]; exact b2)
  have hglt : g < N0 := by omega
  rw [hW4, hw2]
  have hii : FrI wa N0 (.pointer (some ⟨g, 0, none⟩)) (.int .i64 bs.length) [] w2 := ⟨⟨_, [], v0, World.ownsRow_nil _ _ _ _⟩, ⟨0, v1⟩, b2, v2, v3⟩
  have hNw : N0 ≤ wa.heap.size := by omega
  refine range_told rfl (by omega) (gf := 139) (lb := #[.pointer (some ⟨N0 + 2, 0, none⟩), .pointer (some ⟨N0 + 3, 0, none⟩)]) rfl trivial (enters_of Tryz.func139 (by kernel_rfl) rfl)
    (frames_hands (5 - 1) (by omega) (N0 + 2) (N0 + 3) N0 g A c ds false KA kc bs bs.length (Nat.le_refl _) w2 v2.cell v3.cell (by omega) (by omega) (by omega) hrd) (fun _ => rfl) (fun h k => h.trans k) (fun m W l o o' hl hm h hc => KeepsF.turn (w := w2) (by omega) (by omega) (by omega) m W l o o' hl hm h hc)
    (FrI wa N0 (.pointer (some ⟨g, 0, none⟩)) (.int .i64 bs.length)) (frI_own hNw (by omega)) hii
    (FrA wa N0 (.pointer (some ⟨g, 0, none⟩)) (.int .i64 bs.length) (fun x => { tmps := #[.slice A ds.length c, .slice T ps.length ct, .int .i64 most, undef, undef, undef, .slice none 0 0, .int .i64 0, .pointer (some ⟨g, 0, none⟩), .int .i64 0, .pointer (some ⟨N0, 0, none⟩), .pointer (some ⟨N0 + 1, 0, none⟩), x.val, undef, undef, undef, .tuple #[.pointer (some ⟨g, 0, none⟩), .int .i64 0], .slice A ds.length c, .slice T ps.length ct, .int .i64 most, .tuple #[.pointer (some ⟨g, 0, none⟩), .int .i64 0], .pointer (some ⟨g, 0, none⟩), .int .i64 0, .int .i64 0, .bool false, undef, .pointer (some ⟨g, 0, none⟩), .pointer (some ⟨g, 0, none⟩), .pointer (some ⟨g, 0, none⟩), .pointer (some ⟨g, 3, none⟩), .slice KA bs.length kc, .int .i64 bs.length, .func (.func 139) #[] #[.pointer (some ⟨N0 + 2, 0, none⟩), .pointer (some ⟨N0 + 3, 0, none⟩)], x.val, undef, undef, undef, undef, undef, undef, undef, undef, undef, undef, undef, undef, undef, undef, undef, undef, undef], defers := [] }))
    (fun m pre x a' => frA_own hNw (by omega)) ?take ?body ?done
  case take =>
    rintro l pre x W0 W K hI hb hR _ hK
    have hI2 : FrI wa N0 (.pointer (some ⟨g, 0, none⟩)) (.int .i64 bs.length) pre W := ownFrom_below' (frI_own (b := w2.heap.size) hNw (by omega)) hI hb
    have HK := Lib.hid (hK { tmps := #[.slice A ds.length c, .slice T ps.length ct, .int .i64 most, undef, undef, undef, .slice none 0 0, .int .i64 0, .pointer (some ⟨g, 0, none⟩), .int .i64 0, .pointer (some ⟨N0, 0, none⟩), .pointer (some ⟨N0 + 1, 0, none⟩), x.val, undef, undef, undef, .tuple #[.pointer (some ⟨g, 0, none⟩), .int .i64 0], .slice A ds.length c, .slice T ps.length ct, .int .i64 most, .tuple #[.pointer (some ⟨g, 0, none⟩), .int .i64 0], .pointer (some ⟨g, 0, none⟩), .int .i64 0, .int .i64 0, .bool false, undef, .pointer (some ⟨g, 0, none⟩), .pointer (some ⟨g, 0, none⟩), .pointer (some ⟨g, 0, none⟩), .pointer (some ⟨g, 3, none⟩), .slice KA bs.length kc, .int .i64 bs.length, .func (.func 139) #[] #[.pointer (some ⟨N0 + 2, 0, none⟩), .pointer (some ⟨N0 + 3, 0, none⟩)], x.val, undef, undef, undef, undef, undef, undef, undef, undef, undef, undef, undef, undef, undef, undef, undef, undef, undef], defers := [] } W ((KeepsOthers.refl _).from _) (KeepsF.refl _ _ _ _ _) ⟨rfl, hI2, hR⟩)
    clear hK hI hb hR hI2 hrd
    gi_wp2
    exact HK.out
  case body =>
    rintro l m pre x a' W ⟨rfl, ⟨⟨v, us, hv, ho⟩, ⟨z, hf⟩, hb, h1, h2⟩, hx, hxl, hxb⟩ hlen
    have HFG := Lib.hid (fget_any x.A x.c x.xs (by omega) W hx hxb)
    generalize getFr x.xs = t at HFG
    have HV := Lib.hid hv
    have HO := Lib.hid ho
    have HF := Lib.hid hf
    have HB := Lib.hid hb
    have H1 := Lib.hid h1
    have H2 := Lib.hid h2
    have HLEN := Lib.hid hlen
    have hnW : N0 ≤ W.heap.size := Nat.le_trans hNw hb.size
    clear hv ho hf hb h1 h2 hx hxl hxb hlen hrd hii
    gi_wp2_with fail
    refine ⟨trivial, ?_⟩
    refine (callsIn_wide.2 HFG.out).mono ?_
    rintro e W1 ⟨PA, pc, rfl, hrow, hbw⟩
    obtain ⟨u, hu⟩ : ∃ u, W1.alloc (.cells #[.int .i64 t.1.1, .slice PA t.1.2.length pc] 78) = u := ⟨_, rfl⟩
    have bu : Below W1.heap.size W1 u := by rw [← hu]; exact (Below.refl _ _).alloc (Nat.le_refl _) _
    have ku : Held u W1.heap.size 78 #[.int .i64 t.1.1, .slice PA t.1.2.length pc] := by rw [← hu]; exact heap_alloc_new W1 _
    have su : u.heap.size = W1.heap.size + 1 := by rw [← hu, World.size_alloc]
    obtain ⟨u2, hu2⟩ : ∃ u2, u.alloc (.cells #[.int .i64 z, .int .i64 t.2.1, .bool true, .int .i64 t.1.1, .slice PA t.1.2.length pc] 80) = u2 := ⟨_, rfl⟩
    have bu2 : Below u.heap.size u u2 := by rw [← hu2]; exact (Below.refl _ _).alloc (Nat.le_refl _) _
    have ku2 : Held u2 u.heap.size 80 #[.int .i64 z, .int .i64 t.2.1, .bool true, .int .i64 t.1.1, .slice PA t.1.2.length pc] := by rw [← hu2]; exact heap_alloc_new u _
    have zw := hbw.size
    have bW : Below W.heap.size W u2 := (hbw.trans (bu.mono zw)).trans (bu2.mono (by omega))
    have bWu : Below W.heap.size W u := hbw.trans (bu.mono zw)
    have y0 := ku.cell 0
    have y1 := ku.cell 1
    simp at y0 y1
    have hN0W := HV.out.lt
    have hN1W := HF.out.lt
    have q0 : u.cell? ⟨N0, 0, none⟩ = some v := (bWu.cell (p := ⟨N0, 0, none⟩) hN0W).trans HV.out.cell
    have q1 : u.cell? ⟨N0 + 1, 0, none⟩ = some (.int .i64 z) := (bWu.cell (p := ⟨N0 + 1, 0, none⟩) hN1W).trans HF.out.cell
    have ho2 := own_below HO.out bW
    obtain ⟨A1, c1, ev⟩ := own_form ho2
    subst ev
    have HO2 := Lib.hid ho2
    have HE2 : Hid (ERow u2 u2.heap.size (.slice (some ⟨W1.heap.size + 1, 0, none⟩) 1 1) 1 [.int .i64 z, .int .i64 t.2.1, .bool true, .int .i64 t.1.1, .slice PA t.1.2.length pc]) := Lib.hid (by rw [← su]; exact ERow.held (t := 80) ku2 ku2.lt (show (1 : Nat) ≤ maxLen by unfold maxLen; omega))
    have hR := fun v' w1 ys ho' hg z' => fr_round (b := N0 + 4) (m := m) (x := x) (v' := v') (w1 := w1) (ys := ys) (z' := z') hNw HV.out ho2 HF.out HB.out H1.out H2.out bW ho' hg
    have HR := Lib.hid hR
    have hnu2 : N0 ≤ u2.heap.size := Nat.le_trans hnW bW.size
    obtain ⟨n, hn⟩ : ∃ n, pre.length = n := ⟨_, rfl⟩
    have hnl : n ≤ 1000000 := by have h5 := HLEN.out; have h6 := HLB.out.1; omega
    rw [hn] at HO2 HR q0
    clear hrow hbw bu ku bu2 ku2 ho2 hR hn bW bWu
    gi_wp2_with (gi_at_builtin; refine wpListIn_append_erow _ rfl _ _ 76 80 rfl N0 i5 _ 5 56 Tryz.underlying76 hi5 hb0 hb1 hb2 rfl (by decide) (.slice A1 n c1) n us rfl HO2.out _ _ 1 [.int .i64 z, .int .i64 t.2.1, .bool true, .int .i64 t.1.1, .slice PA t.1.2.length pc] rfl HE2.out rfl (by simp [Value.oneCell']) (by unfold maxLen; omega) (by omega) hnu2 (n + 1) rfl _ rfl ?_
                 intro A2 c2 w1 ho1 hg1 hat1; have rr := HR.out _ _ _ ho1 hg1; have r1 := (rr 0).1; have r2 := (rr 0).2.1; have r3 := fun z' => (rr z').2.2.1; have r4 := fun z' => (rr z').2.2.2.1; have r5 := fun z' => (rr z').2.2.2.2; clear rr
                 have hc1' := r1.cell; have hf1' := r1.frozen; have hc2' := r2.cell; have hf2' := r2.frozen; have hl1' := r1.lt; have hl2' := r2.lt; have HKF := Lib.hid r3; have HKP := Lib.hid r4; have HBT := Lib.hid r5; clear ho1 hg1 hat1 r1 r2 r3 r4 r5)
    exact ⟨by rw [s2]; exact HKF.out _, HKP.out _, HBT.out _⟩
  case done =>
    rintro D ys W hD hS ⟨⟨v, us, hv, ho⟩, ⟨z, hf⟩, hbe, h1, h2⟩ hK
    have hln := congrArg List.length hS
    unfold framesL at hln
    rw [if_neg (by decide)] at hln
    simp only [List.length_map, List.length_append, List.length_cons, List.length_nil, List.length_take, Nat.min_self] at hln
    have hys : ys.length = 1 + M := by have := HLB.out.2; omega
    rw [hys] at ho
    obtain ⟨A1, c1, ev⟩ := own_form ho
    subst ev
    have hc := hv.cell
    gi_wp2
    refine ⟨by simp, .inl ⟨_, _, rfl, run_takeDeferred hK, ?_⟩⟩
    refine ⟨_, by simp [results, Tryz.results42, go_sem], A1, c1, rfl, HBA.out.trans ((hbe.mono (by have := HBA.out.size; omega)).trans (belowK_b (w := w) (Nat.le_refl _) W D _ _ (by have := HBA.out.size; omega) hK rfl rfl))⟩
end
end Go.Proofs.YtimihhcidbeonaaGreat

namespace Go.Proofs.YtimihhcidbeonaaGreat
theorem cutsC_flat {sig : List Pr} {most : Int} : ∀ n {l : List Pm}, l.length = n → COk sig l most → (cutsC sig l most).flatten = l ∧ ∀ b ∈ cutsC sig l most, 0 < b.length := by
  intro n
  induction n using Nat.strongRecOn with
  | _ n ih =>
    intro l hn h
    rcases Nat.eq_zero_or_pos l.length with h0 | h0
    · rw [List.eq_nil_of_length_eq_zero h0, cutsC_nil]
      simp
    · have hf := h.first h0
      obtain ⟨e1, e2⟩ := ih (l.length - firstC sig l most) (by omega) (l := l.drop (firstC sig l most)) (by rw [List.length_drop]) (h.drop _)
      rw [h.cons h0, List.flatten_cons, e1, List.take_append_drop]
      refine ⟨rfl, fun b hb => ?_⟩
      rcases List.mem_cons.1 hb with rfl | hb
      · rw [List.length_take]; omega
      · exact e2 b hb
end Go.Proofs.YtimihhcidbeonaaGreat

namespace Go.Proofs.YtimihhcidbeonaaGreat
open Go.RowKit
set_option maxRecDepth 100000 in
set_option maxHeartbeats 1000000 in
theorem number1_any (A : Option Addr) (c : Nat) (ys : List Int) (most : Int) (q : Nat) (w : World) (hrow : Row w w.heap.size (.slice A ys.length c) ys) (hb : ∀ x ∈ ys, 0 ≤ x ∧ x < 256) (hq : w.cell? ⟨q, 0, none⟩ = some (.int .u64 most)) :
    Calls Tryz.prog 151 #[.slice A ys.length c, .pointer (some ⟨q, 0, none⟩)] w (Found u64V w (getN most ys)) := by
  have hql : q < w.heap.size := World.block_lt_of_cell? w ⟨q, 0, none⟩ hq
  have hg := get_any A c ys w hrow hb
  clear hrow hb
  unfold getN
  generalize getI ys = t at hg
  obtain ⟨n, s, er⟩ := t
  simp only at hg
  have HG := Lib.hid hg; clear hg
  by_cases he : er = 0
  · subst he
    by_cases hlt : most < n
    · rw [if_pos ⟨rfl, hlt⟩]
      go_enter Tryz.func151, Tryz.ntmps151
      go_wp2_with fail
      refine HG.out.mono ?_
      rintro e w1 ⟨rfl, hb1⟩
      have hq1 : w1.cell? ⟨q, 0, none⟩ = some (.int .u64 most) := (hb1.cell (p := ⟨q, 0, none⟩) hql).trans hq
      go_wp2_with fail
      go_ret3
      exact ⟨rfl, hb1⟩
    · rw [if_neg (fun h => hlt h.2)]
      go_enter Tryz.func151, Tryz.ntmps151
      go_wp2_with fail
      refine HG.out.mono ?_
      rintro e w1 ⟨rfl, hb1⟩
      have hq1 : w1.cell? ⟨q, 0, none⟩ = some (.int .u64 most) := (hb1.cell (p := ⟨q, 0, none⟩) hql).trans hq
      go_wp2_with fail
      go_ret3
      exact ⟨rfl, hb1⟩
  · have hne : (er == 0) = false := beq_eq_false_iff_ne.2 he
    rw [if_neg (fun h => he h.1)]
    go_enter Tryz.func151, Tryz.ntmps151
    go_wp2_with fail
    refine HG.out.mono ?_
    rintro e w1 ⟨rfl, hb1⟩
    go_wp2_with fail
    go_ret3
    exact ⟨rfl, hb1⟩
end Go.Proofs.YtimihhcidbeonaaGreat
namespace Go.Proofs.YtimihhcidbeonaaGreat
open Go.RowKit
set_option maxRecDepth 100000 in
set_option maxHeartbeats 1000000 in
theorem take_n_any {K g : Nat} {xs : List Int} {p : Nat} {e : Int} {w : World} (most : Int) (q : Nat) (h : Cur 174 w K g xs p e) (hp : p ≤ xs.length) (hK : K ≤ g) (hb : ∀ x ∈ xs, 0 ≤ x ∧ x < 256) (hq : w.cell? ⟨q, 0, none⟩ = some (.int .u64 most)) :
    Calls Tryz.prog 150 #[.pointer (some ⟨g, 0, none⟩), .func (.func 151) #[] #[.pointer (some ⟨q, 0, none⟩)]] w (Took u64V w K g xs (tk 0 p e (getN most (xs.drop p)))) := by
  obtain ⟨A, c, c0, c1, c2, f1, f2, hr, hl, hc⟩ := h.cells
  have hg := h.lt
  by_cases he : e = 0
  · subst he
    have hrest := Cur.rest (w := w.drew) (p := p) (hr.keep (fun _ _ => rfl)) (Nat.le_of_lt hg) hp
    have hfits := (getN_fits most (xs.drop p) (drop_bytes hb p)).1
    rw [List.length_drop] at hfits
    have hcall := number1_any _ _ (xs.drop p) most q w.drew (by rw [List.length_drop]; exact hrest) (drop_bytes hb p) hq
    rw [List.length_drop] at hcall
    clear hrest hr hb
    generalize getN most (xs.drop p) = t at hfits hcall
    obtain ⟨v, s, er⟩ := t
    have HC := Lib.hid h; clear h
    have i0 : (0 : Int) ≤ (p : Int) := by omega
    have i1 : (p : Int) ≤ (xs.length : Int) := by omega
    rcases Nat.decEq c p with hcp | hcp
    · rw [if_neg hcp] at hcall
      have HCALL := Lib.hid hcall; clear hcall
      by_cases her : er = 0
      · subst her
        have hs : s ≤ xs.length - p := hfits rfl
        clear hfits
        rw [tk_ok rfl]
        go_enter Tryz.func150, Tryz.ntmps150
        go_wp2_with fail
        go_region_held3 (fun w' => w'.cell? ⟨g, 0, none⟩ = some (.slice A xs.length c) ∧ w'.cell? ⟨g, 1, none⟩ = some (.int .i64 p)) (first | go_keep | (refine ⟨(hb1.cell (p := ⟨g, 0, none⟩) hg).trans c0, (hb1.cell (p := ⟨g, 1, none⟩) hg).trans c1⟩))
          (first | ((with_reducible refine HCALL.out.mono ?_); rintro r w1 ⟨rfl, hb1⟩))
        have hc1 : Cur 174 w1 K g xs p 0 := (HC.out.keep (w' := w.drew) (fun _ _ _ => rfl) hK).below hb1 hK
        obtain ⟨A1, c', d0, d1, d2, k1, k2, _, _, _⟩ := hc1.cells
        have HC1 := Lib.hid hc1; clear hc1
        go_wp2_with fail
        go_ret
        refine ⟨rfl, ?_, grown_trans (grown_drew (grown_below (a := w.drew) hb1 _)) (grown_put _ _ _ _)⟩
        have hat := HC1.out.at_ (p + s)
        rw [Int.natCast_add] at hat
        exact hat
      · have hne : (er != 0) = true := by simpa using her
        clear hfits
        rw [tk_err her]
        have hst : stopI 0 er = er := rfl
        have HST := Lib.hid hst; clear hst
        go_enter Tryz.func150, Tryz.ntmps150
        go_wp2_with fail
        go_region_held3 (fun w' => w'.cell? ⟨g, 0, none⟩ = some (.slice A xs.length c) ∧ w'.cell? ⟨g, 1, none⟩ = some (.int .i64 p)) (first | go_keep | (refine ⟨(hb1.cell (p := ⟨g, 0, none⟩) hg).trans c0, (hb1.cell (p := ⟨g, 1, none⟩) hg).trans c1⟩))
          (first | ((with_reducible refine HCALL.out.mono ?_); rintro r w1 ⟨rfl, hb1⟩))
        have HC1 : Hid (Cur 174 w1 K g xs p 0) := (HC.out.keep (w' := w.drew) (fun _ _ _ => rfl) hK).below hb1 hK
        go_wp2_with fail
        refine (stop_any er HC1.out).mono ?_
        rintro r w2 ⟨rfl, hc2, hg2⟩
        rw [HST.out] at hc2
        have HC2 := Lib.hid hc2; clear hc2
        go_wp2_with fail
        go_ret
        exact ⟨rfl, HC2.out, grown_trans (grown_drew (grown_below (a := w.drew) hb1 _)) hg2⟩
    · have hcp' := hcp.symm
      subst hcp'
      rw [if_pos rfl, Nat.sub_self, Nat.sub_eq_zero_of_le hl] at hcall
      have HCALL := Lib.hid hcall; clear hcall hcp
      by_cases her : er = 0
      · subst her
        have hs : s ≤ xs.length - p := hfits rfl
        clear hfits
        rw [tk_ok rfl]
        go_enter Tryz.func150, Tryz.ntmps150
        go_wp2_with fail
        go_region_held3 (fun w' => w'.cell? ⟨g, 0, none⟩ = some (.slice A xs.length p) ∧ w'.cell? ⟨g, 1, none⟩ = some (.int .i64 p)) (first | go_keep | (refine ⟨(hb1.cell (p := ⟨g, 0, none⟩) hg).trans c0, (hb1.cell (p := ⟨g, 1, none⟩) hg).trans c1⟩))
          (first | ((with_reducible refine HCALL.out.mono ?_); rintro r w1 ⟨rfl, hb1⟩))
        have hc1 : Cur 174 w1 K g xs p 0 := (HC.out.keep (w' := w.drew) (fun _ _ _ => rfl) hK).below hb1 hK
        obtain ⟨A1, c', d0, d1, d2, k1, k2, _, _, _⟩ := hc1.cells
        have HC1 := Lib.hid hc1; clear hc1
        go_wp2_with fail
        go_ret
        refine ⟨rfl, ?_, grown_trans (grown_drew (grown_below (a := w.drew) hb1 _)) (grown_put _ _ _ _)⟩
        have hat := HC1.out.at_ (p + s)
        rw [Int.natCast_add] at hat
        exact hat
      · have hne : (er != 0) = true := by simpa using her
        clear hfits
        rw [tk_err her]
        have hst : stopI 0 er = er := rfl
        have HST := Lib.hid hst; clear hst
        go_enter Tryz.func150, Tryz.ntmps150
        go_wp2_with fail
        go_region_held3 (fun w' => w'.cell? ⟨g, 0, none⟩ = some (.slice A xs.length p) ∧ w'.cell? ⟨g, 1, none⟩ = some (.int .i64 p)) (first | go_keep | (refine ⟨(hb1.cell (p := ⟨g, 0, none⟩) hg).trans c0, (hb1.cell (p := ⟨g, 1, none⟩) hg).trans c1⟩))
          (first | ((with_reducible refine HCALL.out.mono ?_); rintro r w1 ⟨rfl, hb1⟩))
        have HC1 : Hid (Cur 174 w1 K g xs p 0) := (HC.out.keep (w' := w.drew) (fun _ _ _ => rfl) hK).below hb1 hK
        go_wp2_with fail
        refine (stop_any er HC1.out).mono ?_
        rintro r w2 ⟨rfl, hc2, hg2⟩
        rw [HST.out] at hc2
        have HC2 := Lib.hid hc2; clear hc2
        go_wp2_with fail
        go_ret
        exact ⟨rfl, HC2.out, grown_trans (grown_drew (grown_below (a := w.drew) hb1 _)) hg2⟩
  · rw [tk_stopped he]
    have hne : (e != 0) = true := by simpa using he
    have HC := Lib.hid h; clear h hr
    go_enter Tryz.func150, Tryz.ntmps150
    go_wp2_with fail
    go_ret
    exact ⟨rfl, HC.out, World.grownBy.refl _ _⟩
end Go.Proofs.YtimihhcidbeonaaGreat
namespace Go.Proofs.YtimihhcidbeonaaGreat
open Go.RowKit
section
variable {K g : Nat} {xs : List Int} {p : Nat} {e : Int} {w : World}
theorem number_any (most : Int) (h : Cur 174 w K g xs p e) (hp : p ≤ xs.length) (hK : K ≤ g) (hb : ∀ x ∈ xs, 0 ≤ x ∧ x < 256) :
    Calls Tryz.prog 94 #[.pointer (some ⟨g, 0, none⟩), .int .u64 most] w (Took u64V w K g xs (tk 0 p e (getN most (xs.drop p)))) := by
  have h1 := h.below ((Below.refl _ _).alloc (Nat.le_refl _) (.cells #[.int .u64 most] 32)) hK
  have HT := Lib.hid (take_n_any most w.heap.size h1 hp hK hb (by simp [World.cell?_alloc_new])); clear h h1 hb
  go_enter Tryz.func94, Tryz.ntmps94
  go_wp2_with fail
  refine HT.out.mono ?_
  rintro r w1 ⟨rfl, hc1, hg1⟩
  go_wp2_with fail
  go_ret
  exact ⟨rfl, hc1, grown_trans (grown_alloc _ _ _) hg1⟩
end
end Go.Proofs.YtimihhcidbeonaaGreat

namespace Go.Proofs.YtimihhcidbeonaaGreat
open Go.RowKit
theorem unfold_any (n : Int) (h1 : 0 ≤ n) (h2 : n ≤ 18446744073709551615) (w : World) :
    Calls Tryz.prog 213 #[.int .u64 n] w fun e w' => e = .returned (.int .i64 (unfoldI n)) ∧ w = w' := by
  by_cases hx : n % 2 = 1
  · have e1 : unfoldI n = -1 - n / 2 := by unfold unfoldI; rw [if_pos hx]
    have E1 := Lib.hid e1; clear e1
    have hb : (n % 2 == 1) = true := by simp [hx]
    clear hx
    go_enter Tryz.func213, Tryz.ntmps213
    go_wp2
    go_ret
    exact ⟨by rw [E1.out]; rfl, rfl⟩
  · have e1 : unfoldI n = n / 2 := by unfold unfoldI; rw [if_neg hx]
    have E1 := Lib.hid e1; clear e1
    have hb : (n % 2 == 1) = false := by simp [hx]
    clear hx
    go_enter Tryz.func213, Tryz.ntmps213
    go_wp2
    go_ret
    exact ⟨by rw [E1.out]; rfl, rfl⟩
end Go.Proofs.YtimihhcidbeonaaGreat

namespace Go.Proofs.YtimihhcidbeonaaGreat
open Go.RowKit
set_option maxRecDepth 100000 in
set_option maxHeartbeats 1000000 in
theorem signed1_any (A : Option Addr) (c : Nat) (ys : List Int) (w : World) (hrow : Row w w.heap.size (.slice A ys.length c) ys) (hb : ∀ x ∈ ys, 0 ≤ x ∧ x < 256) :
    Calls Tryz.prog 212 #[.slice A ys.length c] w (Found i64V w (getS ys)) := by
  have hg := get_any A c ys w hrow hb
  obtain ⟨r1, r2⟩ := getI_range ys hb
  clear hrow hb
  unfold getS
  generalize getI ys = t at hg r1 r2
  obtain ⟨n, s, er⟩ := t
  simp only at hg r1 r2
  have HU := Lib.hid (fun W => unfold_any n r1 r2 W)
  have HG := Lib.hid hg; clear hg r1 r2
  go_enter Tryz.func212, Tryz.ntmps212
  go_wp2_with fail
  refine HG.out.mono ?_
  rintro e w1 ⟨rfl, hb1⟩
  go_wp2_with fail
  refine (HU.out _).mono ?_
  rintro e w2 ⟨rfl, rfl⟩
  go_wp2_with fail
  go_ret3
  exact ⟨rfl, hb1⟩
end Go.Proofs.YtimihhcidbeonaaGreat
namespace Go.Proofs.YtimihhcidbeonaaGreat
open Go.RowKit
set_option maxRecDepth 100000 in
set_option maxHeartbeats 1000000 in
theorem take_s_any {K g : Nat} {xs : List Int} {p : Nat} {e : Int} {w : World} (h : Cur 174 w K g xs p e) (hp : p ≤ xs.length) (hK : K ≤ g) (hb : ∀ x ∈ xs, 0 ≤ x ∧ x < 256) :
    Calls Tryz.prog 211 #[.pointer (some ⟨g, 0, none⟩), .func (.func 212) #[] #[]] w (Took i64V w K g xs (tk 0 p e (getS (xs.drop p)))) := by
  obtain ⟨A, c, c0, c1, c2, f1, f2, hr, hl, hc⟩ := h.cells
  have hg := h.lt
  by_cases he : e = 0
  · subst he
    have hrest := Cur.rest (w := w.drew) (p := p) (hr.keep (fun _ _ => rfl)) (Nat.le_of_lt hg) hp
    have hfits := (getS_fits (xs.drop p) (drop_bytes hb p)).1
    rw [List.length_drop] at hfits
    have hcall := signed1_any _ _ (xs.drop p) w.drew (by rw [List.length_drop]; exact hrest) (drop_bytes hb p)
    rw [List.length_drop] at hcall
    clear hrest hr hb
    generalize getS (xs.drop p) = t at hfits hcall
    obtain ⟨v, s, er⟩ := t
    have HC := Lib.hid h; clear h
    have i0 : (0 : Int) ≤ (p : Int) := by omega
    have i1 : (p : Int) ≤ (xs.length : Int) := by omega
    rcases Nat.decEq c p with hcp | hcp
    · rw [if_neg hcp] at hcall
      have HCALL := Lib.hid hcall; clear hcall
      by_cases her : er = 0
      · subst her
        have hs : s ≤ xs.length - p := hfits rfl
        clear hfits
        rw [tk_ok rfl]
        go_enter Tryz.func211, Tryz.ntmps211
        go_wp2_with fail
        go_region_held3 (fun w' => w'.cell? ⟨g, 0, none⟩ = some (.slice A xs.length c) ∧ w'.cell? ⟨g, 1, none⟩ = some (.int .i64 p)) (first | go_keep | (refine ⟨(hb1.cell (p := ⟨g, 0, none⟩) hg).trans c0, (hb1.cell (p := ⟨g, 1, none⟩) hg).trans c1⟩))
          (first | ((with_reducible refine HCALL.out.mono ?_); rintro r w1 ⟨rfl, hb1⟩))
        have hc1 : Cur 174 w1 K g xs p 0 := (HC.out.keep (w' := w.drew) (fun _ _ _ => rfl) hK).below hb1 hK
        obtain ⟨A1, c', d0, d1, d2, k1, k2, _, _, _⟩ := hc1.cells
        have HC1 := Lib.hid hc1; clear hc1
        go_wp2_with fail
        go_ret
        refine ⟨rfl, ?_, grown_trans (grown_drew (grown_below (a := w.drew) hb1 _)) (grown_put _ _ _ _)⟩
        have hat := HC1.out.at_ (p + s)
        rw [Int.natCast_add] at hat
        exact hat
      · have hne : (er != 0) = true := by simpa using her
        clear hfits
        rw [tk_err her]
        have hst : stopI 0 er = er := rfl
        have HST := Lib.hid hst; clear hst
        go_enter Tryz.func211, Tryz.ntmps211
        go_wp2_with fail
        go_region_held3 (fun w' => w'.cell? ⟨g, 0, none⟩ = some (.slice A xs.length c) ∧ w'.cell? ⟨g, 1, none⟩ = some (.int .i64 p)) (first | go_keep | (refine ⟨(hb1.cell (p := ⟨g, 0, none⟩) hg).trans c0, (hb1.cell (p := ⟨g, 1, none⟩) hg).trans c1⟩))
          (first | ((with_reducible refine HCALL.out.mono ?_); rintro r w1 ⟨rfl, hb1⟩))
        have HC1 : Hid (Cur 174 w1 K g xs p 0) := (HC.out.keep (w' := w.drew) (fun _ _ _ => rfl) hK).below hb1 hK
        go_wp2_with fail
        refine (stop_any er HC1.out).mono ?_
        rintro r w2 ⟨rfl, hc2, hg2⟩
        rw [HST.out] at hc2
        have HC2 := Lib.hid hc2; clear hc2
        go_wp2_with fail
        go_ret
        exact ⟨rfl, HC2.out, grown_trans (grown_drew (grown_below (a := w.drew) hb1 _)) hg2⟩
    · have hcp' := hcp.symm
      subst hcp'
      rw [if_pos rfl, Nat.sub_self, Nat.sub_eq_zero_of_le hl] at hcall
      have HCALL := Lib.hid hcall; clear hcall hcp
      by_cases her : er = 0
      · subst her
        have hs : s ≤ xs.length - p := hfits rfl
        clear hfits
        rw [tk_ok rfl]
        go_enter Tryz.func211, Tryz.ntmps211
        go_wp2_with fail
        go_region_held3 (fun w' => w'.cell? ⟨g, 0, none⟩ = some (.slice A xs.length p) ∧ w'.cell? ⟨g, 1, none⟩ = some (.int .i64 p)) (first | go_keep | (refine ⟨(hb1.cell (p := ⟨g, 0, none⟩) hg).trans c0, (hb1.cell (p := ⟨g, 1, none⟩) hg).trans c1⟩))
          (first | ((with_reducible refine HCALL.out.mono ?_); rintro r w1 ⟨rfl, hb1⟩))
        have hc1 : Cur 174 w1 K g xs p 0 := (HC.out.keep (w' := w.drew) (fun _ _ _ => rfl) hK).below hb1 hK
        obtain ⟨A1, c', d0, d1, d2, k1, k2, _, _, _⟩ := hc1.cells
        have HC1 := Lib.hid hc1; clear hc1
        go_wp2_with fail
        go_ret
        refine ⟨rfl, ?_, grown_trans (grown_drew (grown_below (a := w.drew) hb1 _)) (grown_put _ _ _ _)⟩
        have hat := HC1.out.at_ (p + s)
        rw [Int.natCast_add] at hat
        exact hat
      · have hne : (er != 0) = true := by simpa using her
        clear hfits
        rw [tk_err her]
        have hst : stopI 0 er = er := rfl
        have HST := Lib.hid hst; clear hst
        go_enter Tryz.func211, Tryz.ntmps211
        go_wp2_with fail
        go_region_held3 (fun w' => w'.cell? ⟨g, 0, none⟩ = some (.slice A xs.length p) ∧ w'.cell? ⟨g, 1, none⟩ = some (.int .i64 p)) (first | go_keep | (refine ⟨(hb1.cell (p := ⟨g, 0, none⟩) hg).trans c0, (hb1.cell (p := ⟨g, 1, none⟩) hg).trans c1⟩))
          (first | ((with_reducible refine HCALL.out.mono ?_); rintro r w1 ⟨rfl, hb1⟩))
        have HC1 : Hid (Cur 174 w1 K g xs p 0) := (HC.out.keep (w' := w.drew) (fun _ _ _ => rfl) hK).below hb1 hK
        go_wp2_with fail
        refine (stop_any er HC1.out).mono ?_
        rintro r w2 ⟨rfl, hc2, hg2⟩
        rw [HST.out] at hc2
        have HC2 := Lib.hid hc2; clear hc2
        go_wp2_with fail
        go_ret
        exact ⟨rfl, HC2.out, grown_trans (grown_drew (grown_below (a := w.drew) hb1 _)) hg2⟩
  · rw [tk_stopped he]
    have hne : (e != 0) = true := by simpa using he
    have HC := Lib.hid h; clear h hr
    go_enter Tryz.func211, Tryz.ntmps211
    go_wp2_with fail
    go_ret
    exact ⟨rfl, HC.out, World.grownBy.refl _ _⟩
end Go.Proofs.YtimihhcidbeonaaGreat
namespace Go.Proofs.YtimihhcidbeonaaGreat
open Go.RowKit
section
variable {K g : Nat} {xs : List Int} {p : Nat} {e : Int} {w : World}
theorem signed_any (h : Cur 174 w K g xs p e) (hp : p ≤ xs.length) (hK : K ≤ g) (hb : ∀ x ∈ xs, 0 ≤ x ∧ x < 256) :
    Calls Tryz.prog 195 #[.pointer (some ⟨g, 0, none⟩)] w (Took i64V w K g xs (tk 0 p e (getS (xs.drop p)))) := by
  have HT := Lib.hid (take_s_any h hp hK hb); clear h hb
  go_enter Tryz.func195, Tryz.ntmps195
  go_wp2_with fail
  refine HT.out.mono ?_
  rintro r w1 ⟨rfl, hc1, hg1⟩
  go_wp2_with fail
  go_ret
  exact ⟨rfl, hc1, hg1⟩
end
end Go.Proofs.YtimihhcidbeonaaGreat
