/-
  frame.Get: the frame that bytes begin with, how many bytes it has, or why there is none.
-/
import Derived.Test.YtnjhkjlekepjoaaFrameTaker
namespace Go.Proofs.Ytnjhkjlekepjoaa
open Go.RowKit

/-- What Get answers. -/
def FGot (w : World) (t : (Int × List Int) × Nat × Int) (r : Ending) (w' : World) : Prop :=
  ∃ A c, r = .returned (.tuple #[.agg #[.int .i64 t.1.1, .slice A t.1.2.length c], .int .i64 t.2.1, .int .i64 t.2.2]) ∧ Row w' w'.heap.size (.slice A t.1.2.length c) t.1.2 ∧ Below w.heap.size w w'

/-- The same, and the payload lies in a new block. -/
def FNew (w : World) (t : (Int × List Int) × Nat × Int) (r : Ending) (w' : World) : Prop :=
  ∃ A c, r = .returned (.tuple #[.agg #[.int .i64 t.1.1, .slice A t.1.2.length c], .int .i64 t.2.1, .int .i64 t.2.2]) ∧ Row w' w'.heap.size (.slice A t.1.2.length c) t.1.2 ∧ Below w.heap.size w w' ∧ ∀ a, A = some a → w.heap.size ≤ a.block
theorem FNew.got {w w' : World} {t : (Int × List Int) × Nat × Int} {r : Ending} (h : FNew w t r w') : FGot w t r w' := by
  obtain ⟨A, c, h1, h2, h3, _⟩ := h
  exact ⟨A, c, h1, h2, h3⟩

theorem drewN_size (w : World) (n : Nat) : (w.drewN n).heap.size = w.heap.size := rfl
theorem drewN_below (w : World) (n : Nat) : Below w.heap.size w (w.drewN n) := below_drewN (Below.refl _ _) n

theorem Row.keep_but {w w' : World} {B g : Nat} {v : Value} {xs : List Int} (h : Row w B v xs) (hk : ∀ k, k < B → k ≠ g → w'.heap[k]? = w.heap[k]?) (ha : ∀ (i : Nat) (n : Int), w.cell? ⟨g, i, none⟩ ≠ some (.int .u8 n)) : Row w' B v xs := by
  obtain ⟨A, c, hv, h1, h2, h3, h4⟩ := h
  refine ⟨A, c, hv, h1, h2, h3, fun hn => ?_⟩
  obtain ⟨b, o, e, hb, hc⟩ := h4 hn
  refine ⟨b, o, e, hb, fun i hi => ?_⟩
  have hne : b ≠ g := fun e => by
    subst e
    exact ha _ _ (hc 0 hn)
  exact (World.cell?_of_block (hk b hb hne)).trans (hc i hi)
theorem Cur.no_byte {T : TypeId} {w : World} {K g : Nat} {xs : List Int} {p : Nat} {e : Int} (h : Cur T w K g xs p e) (i : Nat) (n : Int) : w.cell? ⟨g, i, none⟩ ≠ some (.int .u8 n) := by
  obtain ⟨A, c, h1, _⟩ := h
  rw [h1.cell i]
  match i with
  | 0 => simp
  | 1 => simp
  | 2 => simp
  | i + 3 => simp
theorem Cur.drew1 {T : TypeId} {w : World} {K g : Nat} {xs : List Int} {p : Nat} {e : Int} (h : Cur T w K g xs p e) : Cur T w.drew K g xs p e := h
theorem Row.drew1 {w : World} {B : Nat} {v : Value} {xs : List Int} (h : Row w B v xs) : Row w.drew B v xs := h

set_option maxRecDepth 100000 in
set_option maxHeartbeats 2000000 in
theorem fget_new (A : Option Addr) (c : Nat) (xs : List Int) (hsm : xs.length ≤ 9223372036854775807) (w : World) (hrow : Row w w.heap.size (.slice A xs.length c) xs) (hb : ∀ x ∈ xs, 0 ≤ x ∧ x < 256) :
    Calls Try.prog 13 #[.slice A xs.length c] w (FNew w (getFr xs)) := by
  have HROW := Lib.hid hrow; clear hrow
  have HB := Lib.hid hb; clear hb
  have hmk := fun W (h : Row W W.heap.size (.slice A xs.length c) xs) => marked_any A c xs W h HB.out
  by_cases hm : markI markL xs = 0
  · rw [hm] at hmk
    have HMK := Lib.hid hmk; clear hmk
    have hx := markI_back hm
    have hbr : ∀ x ∈ xs.drop 4, 0 ≤ x ∧ x < 256 := drop_bytes HB.out 4
    have hl4 : 4 ≤ xs.length := by rw [hx]; simp [markL]
    have hcs : xs.length ≤ c ∧ c ≤ 9223372036854775807 := by
      obtain ⟨_, _, hv, q1, q2, _⟩ := HROW.out
      injection hv with _ _ e3
      subst e3
      unfold maxLen at q2
      exact ⟨q1, by omega⟩
    obtain ⟨hlc, hcm⟩ := hcs
    have hrr := HROW.out.drop hl4
    have hrl : (xs.drop 4).length = xs.length - 4 := by simp
    obtain ⟨hpl, hget⟩ := taken (xs.drop 4) hbr ((xs.drop 4).take 4103) rfl _ rfl
    rw [← hx] at hget
    have hzb : ∀ x ∈ (xs.drop 4).take 4103, 0 ≤ x ∧ x < 256 := fun x hx => hbr x (List.mem_of_mem_take hx)
    have hzl : ((xs.drop 4).take 4103).length ≤ xs.length - 4 := by simp; omega
    have hzm : ((xs.drop 4).take 4103).length ≤ 4103 := by simp only [List.length_take]; omega
    have hnt := fun W A c (h : Row W W.heap.size (.slice A (xs.drop 4).length c) (xs.drop 4)) => newt_any A c (xs.drop 4) (by omega) W h
    rw [hrl] at hrr hnt
    have HGET := Lib.hid hget; clear hget hx hm
    have HRR := Lib.hid hrr; clear hrr
    have HNT := Lib.hid hnt; clear hnt
    have HBR := Lib.hid hbr; clear hbr
    have HRL := Lib.hid hrl; clear hrl
    have HZB := Lib.hid hzb; clear hzb
    generalize (xs.drop 4).take 4103 = zs at HGET HNT HZB hpl hzl hzm
    have i4 : (4 : Int) ≤ (xs.length : Int) := by omega
    have i5 : (xs.length : Int) ≤ (c : Int) := by omega
    obtain ⟨b, o, rfl⟩ : ∃ b o, A = some ⟨b, o, none⟩ := by
      obtain ⟨_, _, hv, _, _, _, h4⟩ := HROW.out
      injection hv with e1 _ e3
      obtain ⟨b, o, e2, _⟩ := h4 (by omega)
      exact ⟨b, o, e1.trans e2⟩
    by_cases hc4 : c = 4
    · subst hc4
      have hx4 : xs.length = 4 := by omega
      have hr3 := HRR.out
      simp only [if_true, hx4, Nat.sub_self] at hr3
      simp only [hx4, Nat.sub_self] at HRL HNT hzl
      have HR3 := Lib.hid hr3
      clear HRR hr3 hx4
      go_enter Try.func13, Try.ntmps13
      go_wp2_with fail
      refine (HMK.out _ ((HROW.out.below ((Below.refl _ _).alloc (Nat.le_refl _) _)).more (by simp))).mono ?_
      rintro e w1' ⟨rfl, n1, rfl⟩
      go_wp2_with fail
      refine (HNT.out _ _ _ ((HR3.out.below ((((Below.refl _ _).alloc (Nat.le_refl _) _)).trans ((drewN_below _ _).mono (by simp)))).more (by simp))).mono ?_
      rintro e w2 ⟨g, rfl, hg, hcur, hb2⟩
      have hgl := hcur.lt
      rw [drewN_size, World.size_alloc] at hg hcur hb2
      have hz2 := hb2.size
      have hz2' : w.heap.size + 1 ≤ w2.heap.size := by simpa using hz2
      have bw2 : Below w.heap.size w w2 := (((Below.refl _ _).alloc (Nat.le_refl _) _).trans ((drewN_below _ _).mono (by simp))).trans (hb2.mono (by simp))
      have hres : Held w2 w.heap.size 34 #[.int .i64 0, .slice none 0 0] := (hb2.block w.heap.size (by simp)).trans (heap_alloc_new w _)
      obtain ⟨N1, hN1⟩ : ∃ N1, w2.heap.size = N1 := ⟨_, rfl⟩
      obtain ⟨N0, hN0⟩ : ∃ N0, w.heap.size = N0 := ⟨_, rfl⟩
      have hcur3 := hcur.boxed (by omega) (.cells #[.pointer (some ⟨g, 0, none⟩)] 63)
      have ht3 : Held (w2.alloc (.cells #[.pointer (some ⟨g, 0, none⟩)] 63)) N1 63 #[.pointer (some ⟨g, 0, none⟩)] := by rw [← hN1]; exact heap_alloc_new w2 _
      have hres3 : Held (w2.alloc (.cells #[.pointer (some ⟨g, 0, none⟩)] 63)) N0 34 #[.int .i64 0, .slice none 0 0] := by rw [← hN0]; exact hres.below ((Below.refl _ _).alloc (Nat.le_refl _) _) (by omega)
      have bw3 : Below w.heap.size w (w2.alloc (.cells #[.pointer (some ⟨g, 0, none⟩)] 63)) := bw2.alloc (by omega) _
      rw [hN0] at hcur3 hg hz2'
      rw [hN1] at hgl hz2'
      have HC3 := Lib.hid hcur3
      have HT3 := Lib.hid ht3
      have HRES3 := Lib.hid hres3
      have HBW3 := Lib.hid bw3
      have HN1 := Lib.hid hN1
      have HN0 := Lib.hid hN0
      clear hb2 hz2 hcur bw2 hres hcur3 ht3 hres3 bw3
      try simp only [hN0]
      go_wp2_with fail
      try simp only [hN1]
      clear hN0 hN1
      obtain ⟨w3, hw3⟩ : ∃ w3, w2.alloc (.cells #[.pointer (some ⟨g, 0, none⟩)] 63) = w3 := ⟨_, rfl⟩
      rw [hw3] at HC3 HT3 HRES3 HBW3 ⊢
      have hN1lt : N1 < w3.heap.size := HT3.out.lt
      clear hw3
      have HK := Lib.hid (kind_any HC3.out (by omega) HZB.out)
      refine HK.out.mono ?_
      rintro r w4 ⟨rfl, hc4', hg4⟩
      have HT4 := Lib.hid (HT3.out.grown hg4 (fun e => by injection e with e; omega))
      have HRES4 := Lib.hid (HRES3.out.grown hg4 (fun e => by injection e with e; omega))
      have hkp : (takeK zs).2.1 ≤ zs.length := tk_at_le 0 (Nat.zero_le _) (by simp)
      have HP := payload_any hc4' hkp (by omega) HZB.out (by omega)
      change Calls Try.prog _ _ _ (fun r w' => ∃ A c, r = .returned (.slice A (takeP zs).1.length c) ∧ Row w' w'.heap.size (.slice A (takeP zs).1.length c) (takeP zs).1 ∧ Cur 92 w' (N0 + 1) g zs (takeP zs).2.1 (takeP zs).2.2 ∧ w4.grownBy w' (some g) ∧ ∀ a, A = some a → w4.heap.size ≤ a.block) at HP
      have HP2 := Lib.hid HP
      have HG4 := Lib.hid hg4
      have ht4 := HT4.out.cell 0
      simp at ht4
      clear HP hc4' hg4 hkp
      go_wp2_with fail
      refine HP2.out.mono ?_
      rintro r w5 ⟨A5, c5, rfl, hr5, hc5, hg5, hn5⟩
      have HN5 := Lib.hid (fun a e => Nat.le_trans (Nat.le_trans HBW3.out.size HG4.out.size) (hn5 a e)); clear hn5
      have HT5 := Lib.hid (HT4.out.grown hg5 (fun e => by injection e with e; omega))
      have HRES5 := Lib.hid (HRES4.out.grown hg5 (fun e => by injection e with e; omega))
      have hlt5 := HT5.out.lt
      have ht5 := HT5.out.cell 0
      simp at ht5
      have HR5 := Lib.hid hr5
      have HC5 := Lib.hid hc5
      have HG5 := Lib.hid (grown_trans HG4.out hg5)
      clear ht4 hr5 hc5 hg5
      have hrb := HR3.out.take (k := (takeP zs).2.1) (by rw [HRL.out]; omega)
      have hbl : ((xs.drop 4).take (takeP zs).2.1).length = (takeP zs).2.1 := by rw [List.length_take, HRL.out]; omega
      have hbb : ∀ x ∈ (xs.drop 4).take (takeP zs).2.1, 0 ≤ x ∧ x < 256 := fun x hx => HBR.out x (List.mem_of_mem_take hx)
      have hrb5 : Row w5 (N0 + 1) (.slice (some ⟨b, o, none⟩) ((xs.drop 4).take (takeP zs).2.1).length (0)) ((xs.drop 4).take (takeP zs).2.1) := by
        refine Row.more (B := w.heap.size) (Row.keep (hrb.below (HBW3.out)) (fun q hq => World.cell?_of_block (HG5.out.block q.block ?_ (fun e => ?_)))) ?_
        · have := HBW3.out.size; omega
        · injection e with e; have := HN0.out; omega
        · have := HN0.out; omega
      have hsum := fun W h1 h2 => tsum_any (w := W) (K := N0 + 1) (g := g) (zs := zs) (p := (takeP zs).2.1) (e := (takeP zs).2.2) h1 hpl (by omega) HZB.out (some ⟨b, o, none⟩) (0) ((xs.drop 4).take (takeP zs).2.1) h2 hbb
      rw [hbl] at hsum hrb5
      generalize errS zs (takeP zs).2.1 (takeP zs).2.2 ((xs.drop 4).take (takeP zs).2.1) = er at HGET hsum
      generalize (xs.drop 4).take (takeP zs).2.1 = body at hsum hrb5
      have hqa := at4_le (zs := zs) (e := (takeP zs).2.2) hpl 4
      generalize (at4 zs (takeP zs).2.1 (takeP zs).2.2 4).1 = qa at HGET hsum hqa
      generalize (takeK zs).1 = kk at HGET ⊢
      generalize takeP zs = tp at HGET HR5 HC5 hsum hrb5 hpl ⊢
      obtain ⟨pp, q, e2⟩ := tp
      simp only at hpl hsum hrb5
      obtain rfl : q = 0 := by omega
      have HRB5 := Lib.hid hrb5
      have HSUM := Lib.hid hsum
      clear hrb hbl hbb hrb5 hsum
      simp only
      go_wp2_with fail
      go_region_held3 (fun W => W.cell? ⟨N1, 0, none⟩ = some (.pointer (some ⟨g, 0, none⟩)))
        (first | go_keep | exact (World.cell?_of_block (hg6.block N1 (by simpa using hlt5) (fun e => by injection e with e; omega))).trans ht5)
        (first
          | (go_at_call 34; (with_reducible refine (at_any (w := _) (Cur.drew1 HC5.out)).mono ?_); rintro r w6 ⟨rfl, rfl⟩)
          | (go_at_call 33; (with_reducible refine (HSUM.out _ (Cur.drew1 HC5.out) (Row.drew1 HRB5.out)).mono ?_); rintro r w6 ⟨rfl, hc6, hg6⟩))
      have hg6' : w5.grownBy w6 (some g) := grown_drew hg6
      have HT6 := Lib.hid (HT5.out.grown hg6' (fun e => by injection e with e; omega))
      have HRES6 := Lib.hid (HRES5.out.grown hg6' (fun e => by injection e with e; omega))
      have ht6 := HT6.out.cell 0
      simp at ht6
      have hr0 := HRES6.out.cell 0
      have hr1 := HRES6.out.cell 1
      simp at hr0 hr1
      have hf0 := HRES6.out.frozen 0
      have hf1 := HRES6.out.frozen 1
      have hR6 : Row w6 w6.heap.size (.slice A5 pp.length c5) pp := (HR5.out.keep_but (g := g) (fun k hk hn => hg6'.block k hk (fun e => by injection e with e; exact hn e)) (HC5.out.no_byte)).more hg6'.size
      have HR6 := Lib.hid hR6
      have bw6 : Below w.heap.size w w6 := ((HBW3.out.grown HG5.out HBW3.out.size (fun k hk => by injection hk with hk; have := HN0.out; omega))).grown hg6' (by have := HBW3.out.size; have := HG5.out.size; omega) (fun k hk => by injection hk with hk; have := HN0.out; omega)
      have HBW6 := Lib.hid bw6
      have HC6 := Lib.hid hc6
      clear hc6 hg6 hg6' ht5 hR6 bw6
      have HER := Lib.hid (err_any HC6.out)
      have HAT := Lib.hid (at_any HC6.out)
      by_cases her : er = 0
      · subst her
        have hget : getFr xs = ((kk, pp), 4 + qa, 0) := by rw [HGET.out, if_neg (by simp)]
        have HG7 := Lib.hid hget; clear hget
        go_wp2_with fail
        refine HER.out.mono ?_
        rintro r w7 ⟨rfl, rfl⟩
        go_wp2_with fail
        refine HAT.out.mono ?_
        rintro r w8 ⟨rfl, rfl⟩
        go_wp2_with fail
        have hfin := (HRES6.out.put 0 (.int .i64 kk)).put 1 (.slice A5 pp.length c5)
        have e0 := hfin.cell 0
        have e1 := hfin.cell 1
        simp at e0 e1
        refine bodyPost_ret (v := .tuple #[.agg #[.int .i64 kk, .slice A5 pp.length c5], .int .i64 (4 + (qa : Int)), .int .i64 0]) (by simp [results, Try.results13, go_sem, e0, e1]) rfl ?_
        rw [HG7.out]
        refine ⟨A5, c5, by rw [show (((4 + qa : Nat) : Nat) : Int) = 4 + (qa : Int) by omega], ?_, ?_, HN5.out⟩
        · refine (HR6.out.keep_but (g := N0) (fun k _ hn => ?_) (fun i n => ?_)).more (by simp)
          · exact (Below.heap_setCell _ ⟨N0, 1, none⟩ _ k (by simp only; exact hn)).trans (Below.heap_setCell _ ⟨N0, 0, none⟩ _ k (by simp only; exact hn))
          · rw [HRES6.out.cell i]
            match i with
            | 0 => simp
            | 1 => simp
            | i + 2 => simp
        · exact (HBW6.out.setCell (p := ⟨N0, 0, none⟩) (Nat.le_of_eq HN0.out) _).setCell (p := ⟨N0, 1, none⟩) (Nat.le_of_eq HN0.out) _
      · have hne : (er != 0) = true := bne_iff_ne.2 her
        have hne2 : (er == 0) = false := beq_eq_false_iff_ne.2 her
        have hget : getFr xs = noFr er := by rw [HGET.out, if_pos her]
        have HG7 := Lib.hid hget; clear hget
        go_wp2_with fail
        refine HER.out.mono ?_
        rintro r w7 ⟨rfl, rfl⟩
        go_wp2_with fail
        have hfin := (HRES6.out.put 0 (.int .i64 0)).put 1 (.slice none 0 0)
        have e0 := hfin.cell 0
        have e1 := hfin.cell 1
        simp at e0 e1
        refine bodyPost_ret (v := .tuple #[.agg #[.int .i64 0, .slice none 0 0], .int .i64 0, .int .i64 er]) (by simp [results, Try.results13, go_sem, e0, e1]) rfl ?_
        rw [HG7.out]
        exact ⟨none, 0, rfl, Row.nil _ _, (HBW6.out.setCell (p := ⟨N0, 0, none⟩) (Nat.le_of_eq HN0.out) _).setCell (p := ⟨N0, 1, none⟩) (Nat.le_of_eq HN0.out) _, fun a e => by cases e⟩
    · have hr3 := HRR.out
      rw [if_neg hc4, Option.map_some, Go.WideShapes.add_plain] at hr3
      have HR3 := Lib.hid hr3
      clear HRR hr3
      have hc40 : 4 < c := by omega
      go_enter Try.func13, Try.ntmps13
      go_wp2_with fail
      refine (HMK.out _ ((HROW.out.below ((Below.refl _ _).alloc (Nat.le_refl _) _)).more (by simp))).mono ?_
      rintro e w1' ⟨rfl, n1, rfl⟩
      go_wp2_with fail
      refine (HNT.out _ _ _ ((HR3.out.below ((((Below.refl _ _).alloc (Nat.le_refl _) _)).trans ((drewN_below _ _).mono (by simp)))).more (by simp))).mono ?_
      rintro e w2 ⟨g, rfl, hg, hcur, hb2⟩
      have hgl := hcur.lt
      rw [drewN_size, World.size_alloc] at hg hcur hb2
      have hz2 := hb2.size
      have hz2' : w.heap.size + 1 ≤ w2.heap.size := by simpa using hz2
      have bw2 : Below w.heap.size w w2 := (((Below.refl _ _).alloc (Nat.le_refl _) _).trans ((drewN_below _ _).mono (by simp))).trans (hb2.mono (by simp))
      have hres : Held w2 w.heap.size 34 #[.int .i64 0, .slice none 0 0] := (hb2.block w.heap.size (by simp)).trans (heap_alloc_new w _)
      obtain ⟨N1, hN1⟩ : ∃ N1, w2.heap.size = N1 := ⟨_, rfl⟩
      obtain ⟨N0, hN0⟩ : ∃ N0, w.heap.size = N0 := ⟨_, rfl⟩
      have hcur3 := hcur.boxed (by omega) (.cells #[.pointer (some ⟨g, 0, none⟩)] 63)
      have ht3 : Held (w2.alloc (.cells #[.pointer (some ⟨g, 0, none⟩)] 63)) N1 63 #[.pointer (some ⟨g, 0, none⟩)] := by rw [← hN1]; exact heap_alloc_new w2 _
      have hres3 : Held (w2.alloc (.cells #[.pointer (some ⟨g, 0, none⟩)] 63)) N0 34 #[.int .i64 0, .slice none 0 0] := by rw [← hN0]; exact hres.below ((Below.refl _ _).alloc (Nat.le_refl _) _) (by omega)
      have bw3 : Below w.heap.size w (w2.alloc (.cells #[.pointer (some ⟨g, 0, none⟩)] 63)) := bw2.alloc (by omega) _
      rw [hN0] at hcur3 hg hz2'
      rw [hN1] at hgl hz2'
      have HC3 := Lib.hid hcur3
      have HT3 := Lib.hid ht3
      have HRES3 := Lib.hid hres3
      have HBW3 := Lib.hid bw3
      have HN1 := Lib.hid hN1
      have HN0 := Lib.hid hN0
      clear hb2 hz2 hcur bw2 hres hcur3 ht3 hres3 bw3
      try simp only [hN0]
      go_wp2_with fail
      try simp only [hN1]
      clear hN0 hN1
      obtain ⟨w3, hw3⟩ : ∃ w3, w2.alloc (.cells #[.pointer (some ⟨g, 0, none⟩)] 63) = w3 := ⟨_, rfl⟩
      rw [hw3] at HC3 HT3 HRES3 HBW3 ⊢
      have hN1lt : N1 < w3.heap.size := HT3.out.lt
      clear hw3
      have HK := Lib.hid (kind_any HC3.out (by omega) HZB.out)
      refine HK.out.mono ?_
      rintro r w4 ⟨rfl, hc4', hg4⟩
      have HT4 := Lib.hid (HT3.out.grown hg4 (fun e => by injection e with e; omega))
      have HRES4 := Lib.hid (HRES3.out.grown hg4 (fun e => by injection e with e; omega))
      have hkp : (takeK zs).2.1 ≤ zs.length := tk_at_le 0 (Nat.zero_le _) (by simp)
      have HP := payload_any hc4' hkp (by omega) HZB.out (by omega)
      change Calls Try.prog _ _ _ (fun r w' => ∃ A c, r = .returned (.slice A (takeP zs).1.length c) ∧ Row w' w'.heap.size (.slice A (takeP zs).1.length c) (takeP zs).1 ∧ Cur 92 w' (N0 + 1) g zs (takeP zs).2.1 (takeP zs).2.2 ∧ w4.grownBy w' (some g) ∧ ∀ a, A = some a → w4.heap.size ≤ a.block) at HP
      have HP2 := Lib.hid HP
      have HG4 := Lib.hid hg4
      have ht4 := HT4.out.cell 0
      simp at ht4
      clear HP hc4' hg4 hkp
      go_wp2_with fail
      refine HP2.out.mono ?_
      rintro r w5 ⟨A5, c5, rfl, hr5, hc5, hg5, hn5⟩
      have HN5 := Lib.hid (fun a e => Nat.le_trans (Nat.le_trans HBW3.out.size HG4.out.size) (hn5 a e)); clear hn5
      have HT5 := Lib.hid (HT4.out.grown hg5 (fun e => by injection e with e; omega))
      have HRES5 := Lib.hid (HRES4.out.grown hg5 (fun e => by injection e with e; omega))
      have hlt5 := HT5.out.lt
      have ht5 := HT5.out.cell 0
      simp at ht5
      have HR5 := Lib.hid hr5
      have HC5 := Lib.hid hc5
      have HG5 := Lib.hid (grown_trans HG4.out hg5)
      clear ht4 hr5 hc5 hg5
      have hrb := HR3.out.take (k := (takeP zs).2.1) (by rw [HRL.out]; omega)
      have hbl : ((xs.drop 4).take (takeP zs).2.1).length = (takeP zs).2.1 := by rw [List.length_take, HRL.out]; omega
      have hbb : ∀ x ∈ (xs.drop 4).take (takeP zs).2.1, 0 ≤ x ∧ x < 256 := fun x hx => HBR.out x (List.mem_of_mem_take hx)
      have hrb5 : Row w5 (N0 + 1) (.slice (some ⟨b, o + 4, none⟩) ((xs.drop 4).take (takeP zs).2.1).length (c - 4)) ((xs.drop 4).take (takeP zs).2.1) := by
        refine Row.more (B := w.heap.size) (Row.keep (hrb.below (HBW3.out)) (fun q hq => World.cell?_of_block (HG5.out.block q.block ?_ (fun e => ?_)))) ?_
        · have := HBW3.out.size; omega
        · injection e with e; have := HN0.out; omega
        · have := HN0.out; omega
      have hsum := fun W h1 h2 => tsum_any (w := W) (K := N0 + 1) (g := g) (zs := zs) (p := (takeP zs).2.1) (e := (takeP zs).2.2) h1 hpl (by omega) HZB.out (some ⟨b, o + 4, none⟩) (c - 4) ((xs.drop 4).take (takeP zs).2.1) h2 hbb
      rw [hbl] at hsum hrb5
      generalize errS zs (takeP zs).2.1 (takeP zs).2.2 ((xs.drop 4).take (takeP zs).2.1) = er at HGET hsum
      generalize (xs.drop 4).take (takeP zs).2.1 = body at hsum hrb5
      have hqa := at4_le (zs := zs) (e := (takeP zs).2.2) hpl 4
      generalize (at4 zs (takeP zs).2.1 (takeP zs).2.2 4).1 = qa at HGET hsum hqa
      generalize (takeK zs).1 = kk at HGET ⊢
      generalize takeP zs = tp at HGET HR5 HC5 hsum hrb5 hpl ⊢
      obtain ⟨pp, q, e2⟩ := tp
      simp only at hpl hsum hrb5
      have i6 : (0 : Int) ≤ (q : Int) := by omega
      have i7 : (q : Int) ≤ ((c - 4 : Nat) : Int) := by omega
      have i8 : (q : Int) ≤ ((xs.length - 4 : Nat) : Int) := by omega
      have HRB5 := Lib.hid hrb5
      have HSUM := Lib.hid hsum
      clear hrb hbl hbb hrb5 hsum
      simp only
      go_wp2_with fail
      go_region_held3 (fun W => W.cell? ⟨N1, 0, none⟩ = some (.pointer (some ⟨g, 0, none⟩)))
        (first | go_keep | exact (World.cell?_of_block (hg6.block N1 (by simpa using hlt5) (fun e => by injection e with e; omega))).trans ht5)
        (first
          | (go_at_call 34; (with_reducible refine (at_any (w := _) (Cur.drew1 HC5.out)).mono ?_); rintro r w6 ⟨rfl, rfl⟩)
          | (go_at_call 33; (with_reducible refine (HSUM.out _ (Cur.drew1 HC5.out) (Row.drew1 HRB5.out)).mono ?_); rintro r w6 ⟨rfl, hc6, hg6⟩))
      have hg6' : w5.grownBy w6 (some g) := grown_drew hg6
      have HT6 := Lib.hid (HT5.out.grown hg6' (fun e => by injection e with e; omega))
      have HRES6 := Lib.hid (HRES5.out.grown hg6' (fun e => by injection e with e; omega))
      have ht6 := HT6.out.cell 0
      simp at ht6
      have hr0 := HRES6.out.cell 0
      have hr1 := HRES6.out.cell 1
      simp at hr0 hr1
      have hf0 := HRES6.out.frozen 0
      have hf1 := HRES6.out.frozen 1
      have hR6 : Row w6 w6.heap.size (.slice A5 pp.length c5) pp := (HR5.out.keep_but (g := g) (fun k hk hn => hg6'.block k hk (fun e => by injection e with e; exact hn e)) (HC5.out.no_byte)).more hg6'.size
      have HR6 := Lib.hid hR6
      have bw6 : Below w.heap.size w w6 := ((HBW3.out.grown HG5.out HBW3.out.size (fun k hk => by injection hk with hk; have := HN0.out; omega))).grown hg6' (by have := HBW3.out.size; have := HG5.out.size; omega) (fun k hk => by injection hk with hk; have := HN0.out; omega)
      have HBW6 := Lib.hid bw6
      have HC6 := Lib.hid hc6
      clear hc6 hg6 hg6' ht5 hR6 bw6
      have HER := Lib.hid (err_any HC6.out)
      have HAT := Lib.hid (at_any HC6.out)
      by_cases her : er = 0
      · subst her
        have hget : getFr xs = ((kk, pp), 4 + qa, 0) := by rw [HGET.out, if_neg (by simp)]
        have HG7 := Lib.hid hget; clear hget
        go_wp2_with fail
        refine HER.out.mono ?_
        rintro r w7 ⟨rfl, rfl⟩
        go_wp2_with fail
        refine HAT.out.mono ?_
        rintro r w8 ⟨rfl, rfl⟩
        go_wp2_with fail
        have hfin := (HRES6.out.put 0 (.int .i64 kk)).put 1 (.slice A5 pp.length c5)
        have e0 := hfin.cell 0
        have e1 := hfin.cell 1
        simp at e0 e1
        refine bodyPost_ret (v := .tuple #[.agg #[.int .i64 kk, .slice A5 pp.length c5], .int .i64 (4 + (qa : Int)), .int .i64 0]) (by simp [results, Try.results13, go_sem, e0, e1]) rfl ?_
        rw [HG7.out]
        refine ⟨A5, c5, by rw [show (((4 + qa : Nat) : Nat) : Int) = 4 + (qa : Int) by omega], ?_, ?_, HN5.out⟩
        · refine (HR6.out.keep_but (g := N0) (fun k _ hn => ?_) (fun i n => ?_)).more (by simp)
          · exact (Below.heap_setCell _ ⟨N0, 1, none⟩ _ k (by simp only; exact hn)).trans (Below.heap_setCell _ ⟨N0, 0, none⟩ _ k (by simp only; exact hn))
          · rw [HRES6.out.cell i]
            match i with
            | 0 => simp
            | 1 => simp
            | i + 2 => simp
        · exact (HBW6.out.setCell (p := ⟨N0, 0, none⟩) (Nat.le_of_eq HN0.out) _).setCell (p := ⟨N0, 1, none⟩) (Nat.le_of_eq HN0.out) _
      · have hne : (er != 0) = true := bne_iff_ne.2 her
        have hne2 : (er == 0) = false := beq_eq_false_iff_ne.2 her
        have hget : getFr xs = noFr er := by rw [HGET.out, if_pos her]
        have HG7 := Lib.hid hget; clear hget
        go_wp2_with fail
        refine HER.out.mono ?_
        rintro r w7 ⟨rfl, rfl⟩
        go_wp2_with fail
        have hfin := (HRES6.out.put 0 (.int .i64 0)).put 1 (.slice none 0 0)
        have e0 := hfin.cell 0
        have e1 := hfin.cell 1
        simp at e0 e1
        refine bodyPost_ret (v := .tuple #[.agg #[.int .i64 0, .slice none 0 0], .int .i64 0, .int .i64 er]) (by simp [results, Try.results13, go_sem, e0, e1]) rfl ?_
        rw [HG7.out]
        exact ⟨none, 0, rfl, Row.nil _ _, (HBW6.out.setCell (p := ⟨N0, 0, none⟩) (Nat.le_of_eq HN0.out) _).setCell (p := ⟨N0, 1, none⟩) (Nat.le_of_eq HN0.out) _, fun a e => by cases e⟩
  · have hget : getFr xs = noFr (markI markL xs) := by unfold getFr; rw [if_pos hm]
    generalize markI markL xs = er at hget hmk hm
    have hne : (er != 0) = true := bne_iff_ne.2 hm
    have hne2 : (er == 0) = false := beq_eq_false_iff_ne.2 hm
    have HMK := Lib.hid hmk; clear hmk
    have HG7 := Lib.hid hget; clear hget
    go_enter Try.func13, Try.ntmps13
    go_wp2_with fail
    refine (HMK.out _ ((HROW.out.below ((Below.refl _ _).alloc (Nat.le_refl _) _)).more (by simp))).mono ?_
    rintro e w1' ⟨rfl, n1, rfl⟩
    go_wp2_with fail
    refine bodyPost_ret (v := .tuple #[.agg #[.int .i64 0, .slice none 0 0], .int .i64 0, .int .i64 er]) (by simp [results, Try.results13, go_sem]) rfl ?_
    rw [HG7.out]
    exact ⟨none, 0, rfl, Row.nil _ _, ((((Below.refl _ _).alloc (Nat.le_refl _) _).trans ((drewN_below _ _).mono (by simp))).setCell (p := ⟨w.heap.size, 0, none⟩) (Nat.le_refl _) _).setCell (p := ⟨w.heap.size, 1, none⟩) (Nat.le_refl _) _, fun a e => by cases e⟩
theorem fget_any (A : Option Addr) (c : Nat) (xs : List Int) (hsm : xs.length ≤ 9223372036854775807) (w : World) (hrow : Row w w.heap.size (.slice A xs.length c) xs) (hb : ∀ x ∈ xs, 0 ≤ x ∧ x < 256) :
    Calls Try.prog 13 #[.slice A xs.length c] w (FGot w (getFr xs)) := (fget_new A c xs hsm w hrow hb).mono fun _ _ h => h.got
#print axioms fget_any
end Go.Proofs.Ytnjhkjlekepjoaa
