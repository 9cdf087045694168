/-
  What the theorem of ReadRight rests on, part 11 of 12.
-/
import Derived.OwnWalk
import Derived.WalkMore
import Derived.Deep.LoopGhost
import Derived.RangeFuncBox
import Derived.OwnWalkIn
import Derived.Maps.AppendAt
import Derived.RangeFuncCalls
import Derived.Shelf.Abstract
import Derived.TacticsInMore
import Derived.LoopNIn
import Derived.LoopIn
import Derived.Lib.Hide
import Derived.Outline
import Derived.Test.YtimihhcidbeonaaGreatReadRightZ10
namespace Go.Proofs.YtimihhcidbeonaaGreat
open Go.RowKit
/-- What Get answers. -/
def FGot (w : World) (t : (Int × List Int) × Nat × Int) (r : Ending) (w' : World) : Prop :=
  ∃ A c, r = .returned (.tuple #[.agg #[.int .i64 t.1.1, .slice A t.1.2.length c], .int .i64 t.2.1, .int .i64 t.2.2]) ∧ Row w' w'.heap.size (.slice A t.1.2.length c) t.1.2 ∧ Below w.heap.size w w'
/-- The same, and the payload lies in a new block. -/
def FNew (w : World) (t : (Int × List Int) × Nat × Int) (r : Ending) (w' : World) : Prop :=
  ∃ A c, r = .returned (.tuple #[.agg #[.int .i64 t.1.1, .slice A t.1.2.length c], .int .i64 t.2.1, .int .i64 t.2.2]) ∧ Row w' w'.heap.size (.slice A t.1.2.length c) t.1.2 ∧ Below w.heap.size w w' ∧ ∀ a, A = some a → w.heap.size ≤ a.block
theorem FNew.got {w w' : World} {t : (Int × List Int) × Nat × Int} {r : Ending} (h : FNew w t r w') : FGot w t r w' := by
  obtain ⟨A, c, h1, h2, h3, _⟩ := h
  exact ⟨A, c, h1, h2, h3⟩
theorem drewN_size (w : World) (n : Nat) : (w.drewN n).heap.size = w.heap.size := rfl
theorem drewN_below (w : World) (n : Nat) : Below w.heap.size w (w.drewN n) := below_drewN (Below.refl _ _) n
theorem Row.keep_but {w w' : World} {B g : Nat} {v : Value} {xs : List Int} (h : Row w B v xs) (hk : ∀ k, k < B → k ≠ g → w'.heap[k]? = w.heap[k]?) (ha : ∀ (i : Nat) (n : Int), w.cell? ⟨g, i, none⟩ ≠ some (.int .u8 n)) : Row w' B v xs := by
  obtain ⟨A, c, hv, h1, h2, h3, h4⟩ := h
  refine ⟨A, c, hv, h1, h2, h3, fun hn => ?_⟩
  obtain ⟨b, o, e, hb, hc⟩ := h4 hn
  refine ⟨b, o, e, hb, fun i hi => ?_⟩
  have hne : b ≠ g := fun e => by
    subst e
    exact ha _ _ (hc 0 hn)
  exact (World.cell?_of_block (hk b hb hne)).trans (hc i hi)
theorem Cur.no_byte {T : TypeId} {w : World} {K g : Nat} {xs : List Int} {p : Nat} {e : Int} (h : Cur T w K g xs p e) (i : Nat) (n : Int) : w.cell? ⟨g, i, none⟩ ≠ some (.int .u8 n) := by
  obtain ⟨A, c, h1, _⟩ := h
  rw [h1.cell i]
  match i with
  | 0 => simp
  | 1 => simp
  | 2 => simp
  | i + 3 => simp
theorem Cur.drew1 {T : TypeId} {w : World} {K g : Nat} {xs : List Int} {p : Nat} {e : Int} (h : Cur T w K g xs p e) : Cur T w.drew K g xs p e := h
theorem Row.drew1 {w : World} {B : Nat} {v : Value} {xs : List Int} (h : Row w B v xs) : Row w.drew B v xs := h
set_option maxRecDepth 100000 in
set_option maxHeartbeats 2000000 in
theorem fget_new (A : Option Addr) (c : Nat) (xs : List Int) (hsm : xs.length ≤ 9223372036854775807) (w : World) (hrow : Row w w.heap.size (.slice A xs.length c) xs) (hb : ∀ x ∈ xs, 0 ≤ x ∧ x < 256) :
    Calls Tryz.prog 88 #[.slice A xs.length c] w (FNew w (getFr xs)) := by
  have HROW := Lib.hid hrow; clear hrow
  have HB := Lib.hid hb; clear hb
  have hmk := fun W (h : Row W W.heap.size (.slice A xs.length c) xs) => marked_any A c xs W h HB.out
  by_cases hm : markI markL xs = 0
  · rw [hm] at hmk
    have HMK := Lib.hid hmk; clear hmk
    have hx := markI_back hm
    have hbr : ∀ x ∈ xs.drop 4, 0 ≤ x ∧ x < 256 := drop_bytes HB.out 4
    have hl4 : 4 ≤ xs.length := by rw [hx]; simp [markL]
    have hcs : xs.length ≤ c ∧ c ≤ 9223372036854775807 := by
      obtain ⟨_, _, hv, q1, q2, _⟩ := HROW.out
      injection hv with _ _ e3
      subst e3
      unfold maxLen at q2
      exact ⟨q1, by omega⟩
    obtain ⟨hlc, hcm⟩ := hcs
    have hrr := HROW.out.drop hl4
    have hrl : (xs.drop 4).length = xs.length - 4 := by simp
    obtain ⟨hpl, hget⟩ := taken (xs.drop 4) hbr ((xs.drop 4).take 4103) rfl _ rfl
    rw [← hx] at hget
    have hzb : ∀ x ∈ (xs.drop 4).take 4103, 0 ≤ x ∧ x < 256 := fun x hx => hbr x (List.mem_of_mem_take hx)
    have hzl : ((xs.drop 4).take 4103).length ≤ xs.length - 4 := by simp; omega
    have hzm : ((xs.drop 4).take 4103).length ≤ 4103 := by simp only [List.length_take]; omega
    have hnt := fun W A c (h : Row W W.heap.size (.slice A (xs.drop 4).length c) (xs.drop 4)) => newt_any A c (xs.drop 4) (by omega) W h
    rw [hrl] at hrr hnt
    have HGET := Lib.hid hget; clear hget hx hm
    have HRR := Lib.hid hrr; clear hrr
    have HNT := Lib.hid hnt; clear hnt
    have HBR := Lib.hid hbr; clear hbr
    have HRL := Lib.hid hrl; clear hrl
    have HZB := Lib.hid hzb; clear hzb
    generalize (xs.drop 4).take 4103 = zs at HGET HNT HZB hpl hzl hzm
    have i4 : (4 : Int) ≤ (xs.length : Int) := by omega
    have i5 : (xs.length : Int) ≤ (c : Int) := by omega
    obtain ⟨b, o, rfl⟩ : ∃ b o, A = some ⟨b, o, none⟩ := by
      obtain ⟨_, _, hv, _, _, _, h4⟩ := HROW.out
      injection hv with e1 _ e3
      obtain ⟨b, o, e2, _⟩ := h4 (by omega)
      exact ⟨b, o, e1.trans e2⟩
    by_cases hc4 : c = 4
    · subst hc4
      have hx4 : xs.length = 4 := by omega
      have hr3 := HRR.out
      simp only [if_true, hx4, Nat.sub_self] at hr3
      simp only [hx4, Nat.sub_self] at HRL HNT hzl
      have HR3 := Lib.hid hr3
      clear HRR hr3 hx4
      go_enter Tryz.func88, Tryz.ntmps88
      go_wp2_with fail
      refine (HMK.out _ ((HROW.out.below ((Below.refl _ _).alloc (Nat.le_refl _) _)).more (by simp))).mono ?_
      rintro e w1' ⟨rfl, n1, rfl⟩
      go_wp2_with fail
      refine (HNT.out _ _ _ ((HR3.out.below ((((Below.refl _ _).alloc (Nat.le_refl _) _)).trans ((drewN_below _ _).mono (by simp)))).more (by simp))).mono ?_
      rintro e w2 ⟨g, rfl, hg, hcur, hb2⟩
      have hgl := hcur.lt
      rw [drewN_size, World.size_alloc] at hg hcur hb2
      have hz2 := hb2.size
      have hz2' : w.heap.size + 1 ≤ w2.heap.size := by simpa using hz2
      have bw2 : Below w.heap.size w w2 := (((Below.refl _ _).alloc (Nat.le_refl _) _).trans ((drewN_below _ _).mono (by simp))).trans (hb2.mono (by simp))
      have hres : Held w2 w.heap.size 78 #[.int .i64 0, .slice none 0 0] := (hb2.block w.heap.size (by simp)).trans (heap_alloc_new w _)
      obtain ⟨N1, hN1⟩ : ∃ N1, w2.heap.size = N1 := ⟨_, rfl⟩
      obtain ⟨N0, hN0⟩ : ∃ N0, w.heap.size = N0 := ⟨_, rfl⟩
      have hcur3 := hcur.boxed (by omega) (.cells #[.pointer (some ⟨g, 0, none⟩)] 229)
      have ht3 : Held (w2.alloc (.cells #[.pointer (some ⟨g, 0, none⟩)] 229)) N1 229 #[.pointer (some ⟨g, 0, none⟩)] := by rw [← hN1]; exact heap_alloc_new w2 _
      have hres3 : Held (w2.alloc (.cells #[.pointer (some ⟨g, 0, none⟩)] 229)) N0 78 #[.int .i64 0, .slice none 0 0] := by rw [← hN0]; exact hres.below ((Below.refl _ _).alloc (Nat.le_refl _) _) (by omega)
      have bw3 : Below w.heap.size w (w2.alloc (.cells #[.pointer (some ⟨g, 0, none⟩)] 229)) := bw2.alloc (by omega) _
      rw [hN0] at hcur3 hg hz2'
      rw [hN1] at hgl hz2'
      have HC3 := Lib.hid hcur3
      have HT3 := Lib.hid ht3
      have HRES3 := Lib.hid hres3
      have HBW3 := Lib.hid bw3
      have HN1 := Lib.hid hN1
      have HN0 := Lib.hid hN0
      clear hb2 hz2 hcur bw2 hres hcur3 ht3 hres3 bw3
      try simp only [hN0]
      go_wp2_with fail
      try simp only [hN1]
      clear hN0 hN1
      obtain ⟨w3, hw3⟩ : ∃ w3, w2.alloc (.cells #[.pointer (some ⟨g, 0, none⟩)] 229) = w3 := ⟨_, rfl⟩
      rw [hw3] at HC3 HT3 HRES3 HBW3 ⊢
      have hN1lt : N1 < w3.heap.size := HT3.out.lt
      clear hw3
      have HK := Lib.hid (kind_any HC3.out (by omega) HZB.out)
      refine HK.out.mono ?_
      rintro r w4 ⟨rfl, hc4', hg4⟩
      have HT4 := Lib.hid (HT3.out.grown hg4 (fun e => by injection e with e; omega))
      have HRES4 := Lib.hid (HRES3.out.grown hg4 (fun e => by injection e with e; omega))
      have hkp : (takeK zs).2.1 ≤ zs.length := tk_at_le 0 (Nat.zero_le _) (by simp)
      have HP := payload_any hc4' hkp (by omega) HZB.out (by omega)
      change Calls Tryz.prog _ _ _ (fun r w' => ∃ A c, r = .returned (.slice A (takeP zs).1.length c) ∧ Row w' w'.heap.size (.slice A (takeP zs).1.length c) (takeP zs).1 ∧ Cur 174 w' (N0 + 1) g zs (takeP zs).2.1 (takeP zs).2.2 ∧ w4.grownBy w' (some g) ∧ ∀ a, A = some a → w4.heap.size ≤ a.block) at HP
      have HP2 := Lib.hid HP
      have HG4 := Lib.hid hg4
      have ht4 := HT4.out.cell 0
      simp at ht4
      clear HP hc4' hg4 hkp
      go_wp2_with fail
      refine HP2.out.mono ?_
      rintro r w5 ⟨A5, c5, rfl, hr5, hc5, hg5, hn5⟩
      have HN5 := Lib.hid (fun a e => Nat.le_trans (Nat.le_trans HBW3.out.size HG4.out.size) (hn5 a e)); clear hn5
      have HT5 := Lib.hid (HT4.out.grown hg5 (fun e => by injection e with e; omega))
      have HRES5 := Lib.hid (HRES4.out.grown hg5 (fun e => by injection e with e; omega))
      have hlt5 := HT5.out.lt
      have ht5 := HT5.out.cell 0
      simp at ht5
      have HR5 := Lib.hid hr5
      have HC5 := Lib.hid hc5
      have HG5 := Lib.hid (grown_trans HG4.out hg5)
      clear ht4 hr5 hc5 hg5
      have hrb := HR3.out.take (k := (takeP zs).2.1) (by rw [HRL.out]; omega)
      have hbl : ((xs.drop 4).take (takeP zs).2.1).length = (takeP zs).2.1 := by rw [List.length_take, HRL.out]; omega
      have hbb : ∀ x ∈ (xs.drop 4).take (takeP zs).2.1, 0 ≤ x ∧ x < 256 := fun x hx => HBR.out x (List.mem_of_mem_take hx)
      have hrb5 : Row w5 (N0 + 1) (.slice (some ⟨b, o, none⟩) ((xs.drop 4).take (takeP zs).2.1).length (0)) ((xs.drop 4).take (takeP zs).2.1) := by
        refine Row.more (B := w.heap.size) (Row.keep (hrb.below (HBW3.out)) (fun q hq => World.cell?_of_block (HG5.out.block q.block ?_ (fun e => ?_)))) ?_
        · have := HBW3.out.size; omega
        · injection e with e; have := HN0.out; omega
        · have := HN0.out; omega
      have hsum := fun W h1 h2 => tsum_any (w := W) (K := N0 + 1) (g := g) (zs := zs) (p := (takeP zs).2.1) (e := (takeP zs).2.2) h1 hpl (by omega) HZB.out (some ⟨b, o, none⟩) (0) ((xs.drop 4).take (takeP zs).2.1) h2 hbb
      rw [hbl] at hsum hrb5
      generalize errS zs (takeP zs).2.1 (takeP zs).2.2 ((xs.drop 4).take (takeP zs).2.1) = er at HGET hsum
      generalize (xs.drop 4).take (takeP zs).2.1 = body at hsum hrb5
      have hqa := at4_le (zs := zs) (e := (takeP zs).2.2) hpl 4
      generalize (at4 zs (takeP zs).2.1 (takeP zs).2.2 4).1 = qa at HGET hsum hqa
      generalize (takeK zs).1 = kk at HGET ⊢
      generalize takeP zs = tp at HGET HR5 HC5 hsum hrb5 hpl ⊢
      obtain ⟨pp, q, e2⟩ := tp
      simp only at hpl hsum hrb5
      obtain rfl : q = 0 := by omega
      have HRB5 := Lib.hid hrb5
      have HSUM := Lib.hid hsum
      clear hrb hbl hbb hrb5 hsum
      simp only
      go_wp2_with fail
      go_region_held3 (fun W => W.cell? ⟨N1, 0, none⟩ = some (.pointer (some ⟨g, 0, none⟩)))
        (first | go_keep | exact (World.cell?_of_block (hg6.block N1 (by simpa using hlt5) (fun e => by injection e with e; omega))).trans ht5)
        (first
          | (go_at_call 147; (with_reducible refine (at_any (w := _) (Cur.drew1 HC5.out)).mono ?_); rintro r w6 ⟨rfl, rfl⟩)
          | (go_at_call 146; (with_reducible refine (HSUM.out _ (Cur.drew1 HC5.out) (Row.drew1 HRB5.out)).mono ?_); rintro r w6 ⟨rfl, hc6, hg6⟩))
      have hg6' : w5.grownBy w6 (some g) := grown_drew hg6
      have HT6 := Lib.hid (HT5.out.grown hg6' (fun e => by injection e with e; omega))
      have HRES6 := Lib.hid (HRES5.out.grown hg6' (fun e => by injection e with e; omega))
      have ht6 := HT6.out.cell 0
      simp at ht6
      have hr0 := HRES6.out.cell 0
      have hr1 := HRES6.out.cell 1
      simp at hr0 hr1
      have hf0 := HRES6.out.frozen 0
      have hf1 := HRES6.out.frozen 1
      have hR6 : Row w6 w6.heap.size (.slice A5 pp.length c5) pp := (HR5.out.keep_but (g := g) (fun k hk hn => hg6'.block k hk (fun e => by injection e with e; exact hn e)) (HC5.out.no_byte)).more hg6'.size
      have HR6 := Lib.hid hR6
      have bw6 : Below w.heap.size w w6 := ((HBW3.out.grown HG5.out HBW3.out.size (fun k hk => by injection hk with hk; have := HN0.out; omega))).grown hg6' (by have := HBW3.out.size; have := HG5.out.size; omega) (fun k hk => by injection hk with hk; have := HN0.out; omega)
      have HBW6 := Lib.hid bw6
      have HC6 := Lib.hid hc6
      clear hc6 hg6 hg6' ht5 hR6 bw6
      have HER := Lib.hid (err_any HC6.out)
      have HAT := Lib.hid (at_any HC6.out)
      by_cases her : er = 0
      · subst her
        have hget : getFr xs = ((kk, pp), 4 + qa, 0) := by rw [HGET.out, if_neg (by simp)]
        have HG7 := Lib.hid hget; clear hget
        go_wp2_with fail
        refine HER.out.mono ?_
        rintro r w7 ⟨rfl, rfl⟩
        go_wp2_with fail
        refine HAT.out.mono ?_
        rintro r w8 ⟨rfl, rfl⟩
        go_wp2_with fail
        have hfin := (HRES6.out.put 0 (.int .i64 kk)).put 1 (.slice A5 pp.length c5)
        have e0 := hfin.cell 0
        have e1 := hfin.cell 1
        simp at e0 e1
        refine bodyPost_ret (v := .tuple #[.agg #[.int .i64 kk, .slice A5 pp.length c5], .int .i64 (4 + (qa : Int)), .int .i64 0]) (by simp [results, Tryz.results88, go_sem, e0, e1]) rfl ?_
        rw [HG7.out]
        refine ⟨A5, c5, by rw [show (((4 + qa : Nat) : Nat) : Int) = 4 + (qa : Int) by omega], ?_, ?_, HN5.out⟩
        · refine (HR6.out.keep_but (g := N0) (fun k _ hn => ?_) (fun i n => ?_)).more (by simp)
          · exact (Below.heap_setCell _ ⟨N0, 1, none⟩ _ k (by simp only; exact hn)).trans (Below.heap_setCell _ ⟨N0, 0, none⟩ _ k (by simp only; exact hn))
          · rw [HRES6.out.cell i]
            match i with
            | 0 => simp
            | 1 => simp
            | i + 2 => simp
        · exact (HBW6.out.setCell (p := ⟨N0, 0, none⟩) (Nat.le_of_eq HN0.out) _).setCell (p := ⟨N0, 1, none⟩) (Nat.le_of_eq HN0.out) _
      · have hne : (er != 0) = true := bne_iff_ne.2 her
        have hne2 : (er == 0) = false := beq_eq_false_iff_ne.2 her
        have hget : getFr xs = noFr er := by rw [HGET.out, if_pos her]
        have HG7 := Lib.hid hget; clear hget
        go_wp2_with fail
        refine HER.out.mono ?_
        rintro r w7 ⟨rfl, rfl⟩
        go_wp2_with fail
        have hfin := (HRES6.out.put 0 (.int .i64 0)).put 1 (.slice none 0 0)
        have e0 := hfin.cell 0
        have e1 := hfin.cell 1
        simp at e0 e1
        refine bodyPost_ret (v := .tuple #[.agg #[.int .i64 0, .slice none 0 0], .int .i64 0, .int .i64 er]) (by simp [results, Tryz.results88, go_sem, e0, e1]) rfl ?_
        rw [HG7.out]
        exact ⟨none, 0, rfl, Row.nil _ _, (HBW6.out.setCell (p := ⟨N0, 0, none⟩) (Nat.le_of_eq HN0.out) _).setCell (p := ⟨N0, 1, none⟩) (Nat.le_of_eq HN0.out) _, fun a e => by cases e⟩
    · have hr3 := HRR.out
      rw [if_neg hc4, Option.map_some, Go.WideShapes.add_plain] at hr3
      have HR3 := Lib.hid hr3
      clear HRR hr3
      have hc40 : 4 < c := by omega
      go_enter Tryz.func88, Tryz.ntmps88
      go_wp2_with fail
      refine (HMK.out _ ((HROW.out.below ((Below.refl _ _).alloc (Nat.le_refl _) _)).more (by simp))).mono ?_
      rintro e w1' ⟨rfl, n1, rfl⟩
      go_wp2_with fail
      refine (HNT.out _ _ _ ((HR3.out.below ((((Below.refl _ _).alloc (Nat.le_refl _) _)).trans ((drewN_below _ _).mono (by simp)))).more (by simp))).mono ?_
      rintro e w2 ⟨g, rfl, hg, hcur, hb2⟩
      have hgl := hcur.lt
      rw [drewN_size, World.size_alloc] at hg hcur hb2
      have hz2 := hb2.size
      have hz2' : w.heap.size + 1 ≤ w2.heap.size := by simpa using hz2
      have bw2 : Below w.heap.size w w2 := (((Below.refl _ _).alloc (Nat.le_refl _) _).trans ((drewN_below _ _).mono (by simp))).trans (hb2.mono (by simp))
      have hres : Held w2 w.heap.size 78 #[.int .i64 0, .slice none 0 0] := (hb2.block w.heap.size (by simp)).trans (heap_alloc_new w _)
      obtain ⟨N1, hN1⟩ : ∃ N1, w2.heap.size = N1 := ⟨_, rfl⟩
      obtain ⟨N0, hN0⟩ : ∃ N0, w.heap.size = N0 := ⟨_, rfl⟩
      have hcur3 := hcur.boxed (by omega) (.cells #[.pointer (some ⟨g, 0, none⟩)] 229)
      have ht3 : Held (w2.alloc (.cells #[.pointer (some ⟨g, 0, none⟩)] 229)) N1 229 #[.pointer (some ⟨g, 0, none⟩)] := by rw [← hN1]; exact heap_alloc_new w2 _
      have hres3 : Held (w2.alloc (.cells #[.pointer (some ⟨g, 0, none⟩)] 229)) N0 78 #[.int .i64 0, .slice none 0 0] := by rw [← hN0]; exact hres.below ((Below.refl _ _).alloc (Nat.le_refl _) _) (by omega)
      have bw3 : Below w.heap.size w (w2.alloc (.cells #[.pointer (some ⟨g, 0, none⟩)] 229)) := bw2.alloc (by omega) _
      rw [hN0] at hcur3 hg hz2'
      rw [hN1] at hgl hz2'
      have HC3 := Lib.hid hcur3
      have HT3 := Lib.hid ht3
      have HRES3 := Lib.hid hres3
      have HBW3 := Lib.hid bw3
      have HN1 := Lib.hid hN1
      have HN0 := Lib.hid hN0
      clear hb2 hz2 hcur bw2 hres hcur3 ht3 hres3 bw3
      try simp only [hN0]
      go_wp2_with fail
      try simp only [hN1]
      clear hN0 hN1
      obtain ⟨w3, hw3⟩ : ∃ w3, w2.alloc (.cells #[.pointer (some ⟨g, 0, none⟩)] 229) = w3 := ⟨_, rfl⟩
      rw [hw3] at HC3 HT3 HRES3 HBW3 ⊢
      have hN1lt : N1 < w3.heap.size := HT3.out.lt
      clear hw3
      have HK := Lib.hid (kind_any HC3.out (by omega) HZB.out)
      refine HK.out.mono ?_
      rintro r w4 ⟨rfl, hc4', hg4⟩
      have HT4 := Lib.hid (HT3.out.grown hg4 (fun e => by injection e with e; omega))
      have HRES4 := Lib.hid (HRES3.out.grown hg4 (fun e => by injection e with e; omega))
      have hkp : (takeK zs).2.1 ≤ zs.length := tk_at_le 0 (Nat.zero_le _) (by simp)
      have HP := payload_any hc4' hkp (by omega) HZB.out (by omega)
      change Calls Tryz.prog _ _ _ (fun r w' => ∃ A c, r = .returned (.slice A (takeP zs).1.length c) ∧ Row w' w'.heap.size (.slice A (takeP zs).1.length c) (takeP zs).1 ∧ Cur 174 w' (N0 + 1) g zs (takeP zs).2.1 (takeP zs).2.2 ∧ w4.grownBy w' (some g) ∧ ∀ a, A = some a → w4.heap.size ≤ a.block) at HP
      have HP2 := Lib.hid HP
      have HG4 := Lib.hid hg4
      have ht4 := HT4.out.cell 0
      simp at ht4
      clear HP hc4' hg4 hkp
      go_wp2_with fail
      refine HP2.out.mono ?_
      rintro r w5 ⟨A5, c5, rfl, hr5, hc5, hg5, hn5⟩
      have HN5 := Lib.hid (fun a e => Nat.le_trans (Nat.le_trans HBW3.out.size HG4.out.size) (hn5 a e)); clear hn5
      have HT5 := Lib.hid (HT4.out.grown hg5 (fun e => by injection e with e; omega))
      have HRES5 := Lib.hid (HRES4.out.grown hg5 (fun e => by injection e with e; omega))
      have hlt5 := HT5.out.lt
      have ht5 := HT5.out.cell 0
      simp at ht5
      have HR5 := Lib.hid hr5
      have HC5 := Lib.hid hc5
      have HG5 := Lib.hid (grown_trans HG4.out hg5)
      clear ht4 hr5 hc5 hg5
      have hrb := HR3.out.take (k := (takeP zs).2.1) (by rw [HRL.out]; omega)
      have hbl : ((xs.drop 4).take (takeP zs).2.1).length = (takeP zs).2.1 := by rw [List.length_take, HRL.out]; omega
      have hbb : ∀ x ∈ (xs.drop 4).take (takeP zs).2.1, 0 ≤ x ∧ x < 256 := fun x hx => HBR.out x (List.mem_of_mem_take hx)
      have hrb5 : Row w5 (N0 + 1) (.slice (some ⟨b, o + 4, none⟩) ((xs.drop 4).take (takeP zs).2.1).length (c - 4)) ((xs.drop 4).take (takeP zs).2.1) := by
        refine Row.more (B := w.heap.size) (Row.keep (hrb.below (HBW3.out)) (fun q hq => World.cell?_of_block (HG5.out.block q.block ?_ (fun e => ?_)))) ?_
        · have := HBW3.out.size; omega
        · injection e with e; have := HN0.out; omega
        · have := HN0.out; omega
      have hsum := fun W h1 h2 => tsum_any (w := W) (K := N0 + 1) (g := g) (zs := zs) (p := (takeP zs).2.1) (e := (takeP zs).2.2) h1 hpl (by omega) HZB.out (some ⟨b, o + 4, none⟩) (c - 4) ((xs.drop 4).take (takeP zs).2.1) h2 hbb
      rw [hbl] at hsum hrb5
      generalize errS zs (takeP zs).2.1 (takeP zs).2.2 ((xs.drop 4).take (takeP zs).2.1) = er at HGET hsum
      generalize (xs.drop 4).take (takeP zs).2.1 = body at hsum hrb5
      have hqa := at4_le (zs := zs) (e := (takeP zs).2.2) hpl 4
      generalize (at4 zs (takeP zs).2.1 (takeP zs).2.2 4).1 = qa at HGET hsum hqa
      generalize (takeK zs).1 = kk at HGET ⊢
      generalize takeP zs = tp at HGET HR5 HC5 hsum hrb5 hpl ⊢
      obtain ⟨pp, q, e2⟩ := tp
      simp only at hpl hsum hrb5
      have i6 : (0 : Int) ≤ (q : Int) := by omega
      have i7 : (q : Int) ≤ ((c - 4 : Nat) : Int) := by omega
      have i8 : (q : Int) ≤ ((xs.length - 4 : Nat) : Int) := by omega
      have HRB5 := Lib.hid hrb5
      have HSUM := Lib.hid hsum
      clear hrb hbl hbb hrb5 hsum
      simp only
      go_wp2_with fail
      go_region_held3 (fun W => W.cell? ⟨N1, 0, none⟩ = some (.pointer (some ⟨g, 0, none⟩)))
        (first | go_keep | exact (World.cell?_of_block (hg6.block N1 (by simpa using hlt5) (fun e => by injection e with e; omega))).trans ht5)
        (first
          | (go_at_call 147; (with_reducible refine (at_any (w := _) (Cur.drew1 HC5.out)).mono ?_); rintro r w6 ⟨rfl, rfl⟩)
          | (go_at_call 146; (with_reducible refine (HSUM.out _ (Cur.drew1 HC5.out) (Row.drew1 HRB5.out)).mono ?_); rintro r w6 ⟨rfl, hc6, hg6⟩))
      have hg6' : w5.grownBy w6 (some g) := grown_drew hg6
      have HT6 := Lib.hid (HT5.out.grown hg6' (fun e => by injection e with e; omega))
      have HRES6 := Lib.hid (HRES5.out.grown hg6' (fun e => by injection e with e; omega))
      have ht6 := HT6.out.cell 0
      simp at ht6
      have hr0 := HRES6.out.cell 0
      have hr1 := HRES6.out.cell 1
      simp at hr0 hr1
      have hf0 := HRES6.out.frozen 0
      have hf1 := HRES6.out.frozen 1
      have hR6 : Row w6 w6.heap.size (.slice A5 pp.length c5) pp := (HR5.out.keep_but (g := g) (fun k hk hn => hg6'.block k hk (fun e => by injection e with e; exact hn e)) (HC5.out.no_byte)).more hg6'.size
      have HR6 := Lib.hid hR6
      have bw6 : Below w.heap.size w w6 := ((HBW3.out.grown HG5.out HBW3.out.size (fun k hk => by injection hk with hk; have := HN0.out; omega))).grown hg6' (by have := HBW3.out.size; have := HG5.out.size; omega) (fun k hk => by injection hk with hk; have := HN0.out; omega)
      have HBW6 := Lib.hid bw6
      have HC6 := Lib.hid hc6
      clear hc6 hg6 hg6' ht5 hR6 bw6
      have HER := Lib.hid (err_any HC6.out)
      have HAT := Lib.hid (at_any HC6.out)
      by_cases her : er = 0
      · subst her
        have hget : getFr xs = ((kk, pp), 4 + qa, 0) := by rw [HGET.out, if_neg (by simp)]
        have HG7 := Lib.hid hget; clear hget
        go_wp2_with fail
        refine HER.out.mono ?_
        rintro r w7 ⟨rfl, rfl⟩
        go_wp2_with fail
        refine HAT.out.mono ?_
        rintro r w8 ⟨rfl, rfl⟩
        go_wp2_with fail
        have hfin := (HRES6.out.put 0 (.int .i64 kk)).put 1 (.slice A5 pp.length c5)
        have e0 := hfin.cell 0
        have e1 := hfin.cell 1
        simp at e0 e1
        refine bodyPost_ret (v := .tuple #[.agg #[.int .i64 kk, .slice A5 pp.length c5], .int .i64 (4 + (qa : Int)), .int .i64 0]) (by simp [results, Tryz.results88, go_sem, e0, e1]) rfl ?_
        rw [HG7.out]
        refine ⟨A5, c5, by rw [show (((4 + qa : Nat) : Nat) : Int) = 4 + (qa : Int) by omega], ?_, ?_, HN5.out⟩
        · refine (HR6.out.keep_but (g := N0) (fun k _ hn => ?_) (fun i n => ?_)).more (by simp)
          · exact (Below.heap_setCell _ ⟨N0, 1, none⟩ _ k (by simp only; exact hn)).trans (Below.heap_setCell _ ⟨N0, 0, none⟩ _ k (by simp only; exact hn))
          · rw [HRES6.out.cell i]
            match i with
            | 0 => simp
            | 1 => simp
            | i + 2 => simp
        · exact (HBW6.out.setCell (p := ⟨N0, 0, none⟩) (Nat.le_of_eq HN0.out) _).setCell (p := ⟨N0, 1, none⟩) (Nat.le_of_eq HN0.out) _
      · have hne : (er != 0) = true := bne_iff_ne.2 her
        have hne2 : (er == 0) = false := beq_eq_false_iff_ne.2 her
        have hget : getFr xs = noFr er := by rw [HGET.out, if_pos her]
        have HG7 := Lib.hid hget; clear hget
        go_wp2_with fail
        refine HER.out.mono ?_
        rintro r w7 ⟨rfl, rfl⟩
        go_wp2_with fail
        have hfin := (HRES6.out.put 0 (.int .i64 0)).put 1 (.slice none 0 0)
        have e0 := hfin.cell 0
        have e1 := hfin.cell 1
        simp at e0 e1
        refine bodyPost_ret (v := .tuple #[.agg #[.int .i64 0, .slice none 0 0], .int .i64 0, .int .i64 er]) (by simp [results, Tryz.results88, go_sem, e0, e1]) rfl ?_
        rw [HG7.out]
        exact ⟨none, 0, rfl, Row.nil _ _, (HBW6.out.setCell (p := ⟨N0, 0, none⟩) (Nat.le_of_eq HN0.out) _).setCell (p := ⟨N0, 1, none⟩) (Nat.le_of_eq HN0.out) _, fun a e => by cases e⟩
  · have hget : getFr xs = noFr (markI markL xs) := by unfold getFr; rw [if_pos hm]
    generalize markI markL xs = er at hget hmk hm
    have hne : (er != 0) = true := bne_iff_ne.2 hm
    have hne2 : (er == 0) = false := beq_eq_false_iff_ne.2 hm
    have HMK := Lib.hid hmk; clear hmk
    have HG7 := Lib.hid hget; clear hget
    go_enter Tryz.func88, Tryz.ntmps88
    go_wp2_with fail
    refine (HMK.out _ ((HROW.out.below ((Below.refl _ _).alloc (Nat.le_refl _) _)).more (by simp))).mono ?_
    rintro e w1' ⟨rfl, n1, rfl⟩
    go_wp2_with fail
    refine bodyPost_ret (v := .tuple #[.agg #[.int .i64 0, .slice none 0 0], .int .i64 0, .int .i64 er]) (by simp [results, Tryz.results88, go_sem]) rfl ?_
    rw [HG7.out]
    exact ⟨none, 0, rfl, Row.nil _ _, ((((Below.refl _ _).alloc (Nat.le_refl _) _).trans ((drewN_below _ _).mono (by simp))).setCell (p := ⟨w.heap.size, 0, none⟩) (Nat.le_refl _) _).setCell (p := ⟨w.heap.size, 1, none⟩) (Nat.le_refl _) _, fun a e => by cases e⟩
end Go.Proofs.YtimihhcidbeonaaGreat

namespace Go.Proofs.YtimihhcidbeonaaGreat
open Go.RowKit
/-- A row of bytes is one still, behind a store into a block that holds no byte. -/
theorem Row.past_put {w : World} {B g : Nat} {t : TypeId} {cs : Array Value} {v : Value} {xs : List Int} (h : Row w B v xs) (hg : Held w g t cs) (hcs : ∀ (i : Nat) (n : Int), cs[i]? ≠ some (.int .u8 n)) (i : Nat) (u : Value) :
    Row (w.setCell ⟨g, i, none⟩ u) B v xs :=
  h.keep_but (g := g) (fun k _ hn => Below.heap_setCell _ ⟨g, i, none⟩ _ k (by simp only; exact hn)) (fun j n => by rw [hg.cell j]; exact hcs j n)
theorem two_nob {x : Int} {v : Value} (hv : ∀ n, v ≠ .int .u8 n) (i : Nat) (n : Int) : (#[Value.int .i64 x, v] : Array Value)[i]? ≠ some (.int .u8 n) := by
  match i with
  | 0 => simp
  | 1 => simpa using hv n
  | i + 2 => simp
set_option maxRecDepth 100000 in
set_option maxHeartbeats 1000000 in
theorem at_new (A : Option Addr) (c : Nat) (xs : List Int) (hsm : xs.length ≤ 9223372036854775807) (w : World) (hrow : Row w w.heap.size (.slice A xs.length c) xs) (hb : ∀ x ∈ xs, 0 ≤ x ∧ x < 256) (k : Nat) (hk : k ≤ xs.length) :
    Calls Tryz.prog 182 #[.slice A xs.length c, .int .i64 k] w (FNew w (getFr (xs.drop k))) := by
  have hcs : xs.length ≤ c ∧ c ≤ 9223372036854775807 := by
    obtain ⟨_, _, hv, q1, q2, _⟩ := hrow
    injection hv with _ _ e3
    subst e3
    unfold maxLen at q2
    exact ⟨q1, by omega⟩
  obtain ⟨hlc, hcm⟩ := hcs
  have hrr := hrow.drop hk
  have hrow0 := hrow
  have hbr : ∀ x ∈ xs.drop k, 0 ≤ x ∧ x < 256 := drop_bytes hb k
  have hrl : (xs.drop k).length = xs.length - k := by simp
  have hget := fun W (h : Row W W.heap.size (.slice (if c = k then A else A.map (·.add k)) (xs.drop k).length (c - k)) (xs.drop k)) => fget_new (if c = k then A else A.map (·.add k)) (c - k) (xs.drop k) (by omega) W h hbr
  rw [hrl] at hrr hget
  clear hrow hb hbr hrl
  generalize getFr (xs.drop k) = t at hget ⊢
  have k0 : (0 : Int) ≤ k := by omega
  have k1 : (k : Int) ≤ (xs.length : Int) := by omega
  by_cases hck : c = k
  · subst hck
    rw [if_pos rfl, Nat.sub_self, show xs.length - c = 0 by omega] at hrr hget
    have HG := Lib.hid hget
    have HR := Lib.hid hrr
    clear hrr hget
    have HR0 := Lib.hid ((HR.out.below ((Below.refl _ _).alloc (Nat.le_refl _) (.cells #[.int .i64 0, .slice none 0 0] 78))).more (by simp : w.heap.size ≤ (w.alloc (.cells #[.int .i64 0, .slice none 0 0] 78)).heap.size))
    go_enter Tryz.func182, Tryz.ntmps182
    go_wp2_with fail
    refine (HG.out _ HR0.out).mono ?_
    rintro e w1 ⟨A1, c1, rfl, hrow1, hb1, hn1⟩
    have HN1 := Lib.hid (fun a e => Nat.le_trans (by simp : w.heap.size ≤ (w.alloc (.cells #[.int .i64 0, .slice none 0 0] 78)).heap.size) (hn1 a e)); clear hn1
    have hz1 : w.heap.size + 1 ≤ w1.heap.size := by simpa using hb1.size
    have hres : Held w1 w.heap.size 78 #[.int .i64 0, .slice none 0 0] := (hb1.block w.heap.size (by simp)).trans (heap_alloc_new w _)
    have bw1 : Below w.heap.size w w1 := ((Below.refl _ _).alloc (Nat.le_refl _) _).trans (hb1.mono (by simp))
    have hf0 := hres.frozen 0
    have hf1 := hres.frozen 1
    have hr0 := hres.cell 0
    have hr1 := hres.cell 1
    simp at hr0 hr1
    have HROW1 := Lib.hid hrow1
    have HB1 := Lib.hid bw1
    have HRES := Lib.hid hres
    clear hb1 hrow1 bw1 hres
    go_wp2_with fail
    have hfin := (HRES.out.put 0 (.int .i64 t.1.1)).put 1 (.slice A1 t.1.2.length c1)
    have e0 := hfin.cell 0
    have e1 := hfin.cell 1
    simp at e0 e1
    refine bodyPost_ret (v := .tuple #[.agg #[.int .i64 t.1.1, .slice A1 t.1.2.length c1], .int .i64 t.2.1, .int .i64 t.2.2]) (by simp [results, Tryz.results182, go_sem, e0, e1]) rfl ?_
    refine ⟨A1, c1, rfl, ?_, ?_, HN1.out⟩
    · have h1 := HROW1.out.past_put HRES.out (two_nob (by simp)) 0 (.int .i64 t.1.1)
      have h2 := h1.past_put (by simpa using HRES.out.put 0 (.int .i64 t.1.1)) (two_nob (by simp)) 1 (.slice A1 t.1.2.length c1)
      exact h2.more (by simp)
    · exact (HB1.out.setCell (p := ⟨w.heap.size, 0, none⟩) (Nat.le_refl _) _).setCell (p := ⟨w.heap.size, 1, none⟩) (Nat.le_refl _) _
  · rw [if_neg hck] at hrr hget
    have hkc : k < c := by omega
    have hnil : A ≠ none := fun e => by
      obtain ⟨_, _, hv, _, _, q3, _⟩ := hrow0
      injection hv with e1 _ e3
      have := q3 (e1.symm.trans e)
      omega
    obtain ⟨ad, rfl⟩ := Option.ne_none_iff_exists'.1 hnil
    rw [Option.map_some] at hrr hget
    have HG := Lib.hid hget
    have HR := Lib.hid hrr
    clear hrr hget hnil hrow0
    have HR0 := Lib.hid ((HR.out.below ((Below.refl _ _).alloc (Nat.le_refl _) (.cells #[.int .i64 0, .slice none 0 0] 78))).more (by simp : w.heap.size ≤ (w.alloc (.cells #[.int .i64 0, .slice none 0 0] 78)).heap.size))
    go_enter Tryz.func182, Tryz.ntmps182
    go_wp2_with fail
    refine (HG.out _ HR0.out).mono ?_
    rintro e w1 ⟨A1, c1, rfl, hrow1, hb1, hn1⟩
    have HN1 := Lib.hid (fun a e => Nat.le_trans (by simp : w.heap.size ≤ (w.alloc (.cells #[.int .i64 0, .slice none 0 0] 78)).heap.size) (hn1 a e)); clear hn1
    have hz1 : w.heap.size + 1 ≤ w1.heap.size := by simpa using hb1.size
    have hres : Held w1 w.heap.size 78 #[.int .i64 0, .slice none 0 0] := (hb1.block w.heap.size (by simp)).trans (heap_alloc_new w _)
    have bw1 : Below w.heap.size w w1 := ((Below.refl _ _).alloc (Nat.le_refl _) _).trans (hb1.mono (by simp))
    have hf0 := hres.frozen 0
    have hf1 := hres.frozen 1
    have hr0 := hres.cell 0
    have hr1 := hres.cell 1
    simp at hr0 hr1
    have HROW1 := Lib.hid hrow1
    have HB1 := Lib.hid bw1
    have HRES := Lib.hid hres
    clear hb1 hrow1 bw1 hres
    go_wp2_with fail
    have hfin := (HRES.out.put 0 (.int .i64 t.1.1)).put 1 (.slice A1 t.1.2.length c1)
    have e0 := hfin.cell 0
    have e1 := hfin.cell 1
    simp at e0 e1
    refine bodyPost_ret (v := .tuple #[.agg #[.int .i64 t.1.1, .slice A1 t.1.2.length c1], .int .i64 t.2.1, .int .i64 t.2.2]) (by simp [results, Tryz.results182, go_sem, e0, e1]) rfl ?_
    refine ⟨A1, c1, rfl, ?_, ?_, HN1.out⟩
    · have h1 := HROW1.out.past_put HRES.out (two_nob (by simp)) 0 (.int .i64 t.1.1)
      have h2 := h1.past_put (by simpa using HRES.out.put 0 (.int .i64 t.1.1)) (two_nob (by simp)) 1 (.slice A1 t.1.2.length c1)
      exact h2.more (by simp)
    · exact (HB1.out.setCell (p := ⟨w.heap.size, 0, none⟩) (Nat.le_refl _) _).setCell (p := ⟨w.heap.size, 1, none⟩) (Nat.le_refl _) _
theorem at_in (A : Option Addr) (c : Nat) (xs : List Int) (hsm : xs.length ≤ 9223372036854775807) (w : World) (hrow : Row w w.heap.size (.slice A xs.length c) xs) (hb : ∀ x ∈ xs, 0 ≤ x ∧ x < 256) (k : Nat) (hk : k ≤ xs.length) :
    Calls Tryz.prog 182 #[.slice A xs.length c, .int .i64 k] w (FGot w (getFr (xs.drop k))) := (at_new A c xs hsm w hrow hb k hk).mono fun _ _ h => h.got
end Go.Proofs.YtimihhcidbeonaaGreat
namespace Go.Proofs.YtimihhcidbeonaaGreat
open Go.RowKit
/-- Does Get answer one of these at a place? -/
def oneOf (ws xs : List Int) (a : Nat) : Bool := decide ((getFr (xs.drop a)).2.2 ∈ ws)
/-- The first place from frm on. -/
def firstW (ws xs : List Int) (frm : Int) : Int := firstI (oneOf ws xs) (xs.length - frm.toNat) frm.toNat
/-- What a search answers. -/
def Placed (w : World) (r : Int) (e : Ending) (w' : World) : Prop := e = .returned (.tuple #[.int .i64 (max r 0), .bool (decide (0 ≤ r))]) ∧ Below w.heap.size w w'
theorem firstW_found {ws xs : List Int} {frm : Int} {r : Nat} (h1 : frm.toNat ≤ r) (h2 : r < xs.length) (hn : ∀ j : Nat, frm.toNat ≤ j → j < r → oneOf ws xs j = false) (hr : (getFr (xs.drop r)).2.2 ∈ ws) : firstW ws xs frm = (r : Int) :=
  first_found _ _ r h1 (by omega) hn (by simp [oneOf, hr])
theorem firstW_none {ws xs : List Int} {frm : Int} (hn : ∀ j : Nat, frm.toNat ≤ j → j < xs.length → oneOf ws xs j = false) : firstW ws xs frm = -1 :=
  first_none _ _ (fun j h1 h2 => hn j h1 (by omega))
theorem placed_found {w w' : World} {r : Int} (n : Nat) (h : r = n) (hb : Below w.heap.size w w') : Placed w r (.returned (.tuple #[.int .i64 n, .bool true])) w' := by
  subst h
  refine ⟨?_, hb⟩
  rw [show max (n : Int) 0 = (n : Int) by omega, show decide (0 ≤ (n : Int)) = true by simp]
theorem placed_none {w w' : World} {r : Int} (h : r = -1) (hb : Below w.heap.size w w') : Placed w r (.returned (.tuple #[.int .i64 0, .bool false])) w' := by
  subst h
  exact ⟨rfl, hb⟩
theorem intVs_at {ws : List Int} {k : Nat} (h : k < ws.length) : (ws.map (Value.int .i64))[k]? = some (.int .i64 (ws.getD k 0)) := by simp [List.getD, List.getElem?_eq_getElem h]
set_option maxRecDepth 100000 in
set_option maxHeartbeats 2000000 in
theorem first_any (A : Option Addr) (c : Nat) (xs : List Int) (hsm : xs.length ≤ 9223372036854775807) (w : World) (hrow : Row w w.heap.size (.slice A xs.length c) xs) (hb : ∀ x ∈ xs, 0 ≤ x ∧ x < 256)
    (frm : Int) (h1 : -9223372036854775808 ≤ frm) (h2 : frm ≤ 9223372036854775807) (D : Option Addr) (dn dc : Nat) (ws : List Int) (hws : VRow w w.heap.size (.slice D dn dc) (ws.map (.int .i64))) (hwn : dn ≤ 1000) :
    Calls Tryz.prog 181 #[.slice A xs.length c, .int .i64 frm, .slice D dn dc] w (Placed w (firstW ws xs frm)) := by
  obtain ⟨hdn, _, _⟩ := hws.length
  rw [List.length_map] at hdn
  subst hdn
  have hM : max frm 0 = ((frm.toNat : Nat) : Int) := by omega
  have hm2 : frm.toNat ≤ 9223372036854775807 := by omega
  have hfound := fun r => @firstW_found ws xs frm r
  have hnone := @firstW_none ws xs frm
  have HAT := Lib.hid (fun W (h : Row W W.heap.size (.slice A xs.length c) xs) k hk => at_in A c xs hsm W h hb k hk)
  generalize firstW ws xs frm = R at hfound hnone ⊢
  generalize frm.toNat = M at hM hm2 hfound hnone
  have HF := Lib.hid hfound
  have HN := Lib.hid hnone
  have HROW := Lib.hid hrow
  have HWS := Lib.hid hws
  clear hrow hb hws hfound hnone
  go_enter Tryz.func181, Tryz.ntmps181
  go_wp2_with fail
  go_step3
  go_wp2_with fail
  go_step3
  go_wp2_with fail
  have HM := Lib.hid hM; clear hM
  go_loopg [8, 9, 10] (xs.length - M) (fun g p f i wr => ∃ a : Nat, p = .int .i64 0 ∧ f = .bool false ∧ i = .int .i64 a ∧ M ≤ a ∧ a ≤ 9223372036854775807 ∧ Hid (xs.length - a = g) ∧ Hid (∀ j : Nat, M ≤ j → j < a → oneOf ws xs j = false) ∧ Below w.heap.size w wr)
  case atStart => exact ⟨M, rfl, rfl, rfl, Nat.le_refl _, hm2, Lib.hid rfl, Lib.hid (fun j h1 h2 => by omega), Below.refl _ _⟩
  case round =>
    obtain ⟨a, rfl, rfl, rfl, ha, ha2, HG0, HO, hbw⟩ := hrel
    have hsw := hbw.size
    by_cases hlt : a < xs.length
    · have HA := Lib.hid (HAT.out wr ((HROW.out.below hbw).more hsw) a (by omega))
      generalize hT : getFr (xs.drop a) = T at HA
      have HT := Lib.hid hT; clear hT
      have HBW := Lib.hid hbw; clear hbw
      go_wp2_with fail
      refine HA.out.mono ?_
      rintro e w1 ⟨A1, c1, rfl, _, hb1⟩
      have hz1 := hb1.size
      have hbw1 : Below w.heap.size w w1 := HBW.out.trans (hb1.mono hsw)
      have HBW1 := Lib.hid (hbw1.alloc (by omega) (.cells #[.int .i64 T.1.1, .slice A1 T.1.2.length c1] 78))
      clear hb1 hbw1
      obtain ⟨er, hE⟩ : ∃ er, T.2.2 = er := ⟨_, rfl⟩
      rw [hE]
      have HE := Lib.hid hE; clear hE
      go_wp2_with fail
      obtain ⟨w2, hw2⟩ : ∃ w2, w1.alloc (.cells #[.int .i64 T.1.1, .slice A1 T.1.2.length c1] 78) = w2 := ⟨_, rfl⟩
      rw [hw2] at HBW1 ⊢
      clear hw2 hz1
      have HWS2 := Lib.hid (HWS.out.below HBW1.out)
      go_loopg [8, 9, 33] ws.length (fun g p f i wr => ∃ k : Nat, p = .int .i64 0 ∧ f = .bool false ∧ i = .int .i64 k ∧ k ≤ ws.length ∧ Hid (ws.length - k = g) ∧ Hid (∀ j : Nat, j < k → ws.getD j 0 ≠ er) ∧ w2 = wr)
      case atStart => exact ⟨0, rfl, rfl, rfl, Nat.zero_le _, Lib.hid rfl, Lib.hid (fun j h => absurd h (Nat.not_lt_zero _)), rfl⟩
      case round =>
        obtain ⟨k, rfl, rfl, rfl, hk, HG1, HJ, rfl⟩ := hrel
        by_cases hkl : k < ws.length
        · have hc : ∃ b o, D = some ⟨b, o, none⟩ ∧ w2.cell? ⟨b, o + k, none⟩ = some (.int .i64 (ws.getD k 0)) := by
            obtain ⟨_, _, hv, _, _, _, h4⟩ := HWS2.out
            injection hv with e1 _ _
            obtain ⟨b, o, e, _, hc⟩ := h4 (by rw [List.length_map]; omega)
            exact ⟨b, o, e1.trans e, hc k _ (intVs_at hkl)⟩
          obtain ⟨b, o, rfl, hck⟩ := hc
          obtain ⟨y, hy⟩ : ∃ y, ws.getD k 0 = y := ⟨_, rfl⟩
          rw [hy] at hck
          have HY := Lib.hid hy; clear hy
          by_cases hye : er = y
          · subst hye
            have hin : (getFr (xs.drop a)).2.2 ∈ ws := by
              rw [HT.out, HE.out, ← HY.out, List.getD, List.getElem?_eq_getElem hkl]
              simp
            have hR := HF.out a ha hlt HO.out hin
            have HR := Lib.hid hR
            clear hR hin
            go_wp2_with fail
            rw [Exit.noGoto_ret]
            go_ret2
            exact placed_found a HR.out HBW1.out
          · have hb1 : (er == y) = false := beq_eq_false_iff_ne.2 hye
            have hj2 : ∀ j : Nat, j < k + 1 → ws.getD j 0 ≠ er := fun j hj => by
              rcases Nat.lt_or_ge j k with h | h
              · exact HJ.out j h
              · obtain rfl : j = k := by omega
                rw [HY.out]
                exact fun e => hye e.symm
            have HJ2 := Lib.hid hj2
            clear hye hj2
            go_wp2_with fail
            go_roundg (ws.length - (k + 1))
            case measure => have := HG1.out; omega
            case rel => exact ⟨k + 1, rfl, rfl, by go_num, by omega, Lib.hid rfl, HJ2, rfl⟩
        · obtain rfl : k = ws.length := by omega
          have hno : oneOf ws xs a = false := by
            unfold oneOf
            rw [decide_eq_false_iff_not, HT.out, HE.out]
            intro hm
            obtain ⟨j, hj, e⟩ := List.getElem_of_mem hm
            exact HJ.out j hj (by rw [List.getD, List.getElem?_eq_getElem hj]; exact e)
          have ho2 : ∀ j : Nat, M ≤ j → j < a + 1 → oneOf ws xs j = false := fun j q1 q2 => by
            rcases Nat.lt_or_ge j a with h | h
            · exact HO.out j q1 h
            · obtain rfl : j = a := by omega
              exact hno
          have HO2 := Lib.hid ho2
          clear hno ho2
          go_wp2_with fail
          go_roundg (xs.length - (a + 1))
          case measure => have := HG0.out; omega
          case rel => exact ⟨a + 1, rfl, rfl, by go_num, by omega, by omega, Lib.hid rfl, HO2, HBW1.out⟩
    · have hge : xs.length ≤ a := by omega
      have hR := HN.out (fun j q1 q2 => HO.out j q1 (by omega))
      have HR := Lib.hid hR
      clear hR
      have HB := Lib.hid hbw
      clear hbw
      go_wp2_with fail
      go_ret2
      exact placed_none HR.out HB.out
end Go.Proofs.YtimihhcidbeonaaGreat
namespace Go.Proofs.YtimihhcidbeonaaGreat
open Go.RowKit
theorem firstW_next (xs : List Int) (frm : Int) : firstW [0] xs frm = nextI false xs frm := by
  unfold firstW nextI
  rw [show oneOf [0] xs = begI false xs from funext fun a => by simp only [oneOf, begI, Bool.false_and, Bool.or_false, List.mem_singleton]; rfl]
/-- A slice that was just laid. -/
theorem vrow_new (w : World) (t : TypeId) (us : List Value) (hu : us.length ≤ 1000) : VRow (w.alloc (.cells us.toArray t)) (w.alloc (.cells us.toArray t)).heap.size (.slice (some ⟨w.heap.size, 0, none⟩) us.length us.length) us := by
  refine ⟨_, _, rfl, Nat.le_refl _, by unfold maxLen; omega, fun h => by simp at h, fun _ => ⟨w.heap.size, 0, rfl, by simp, fun i u hi => ?_⟩⟩
  have h : Held (w.alloc (.cells us.toArray t)) w.heap.size t us.toArray := heap_alloc_new w _
  rw [Nat.zero_add, h.cell i]
  simpa using hi
section
variable (A : Option Addr) (c : Nat) (xs : List Int) (hsm : xs.length ≤ 9223372036854775807) (w : World) (hrow : Row w w.heap.size (.slice A xs.length c) xs) (hb : ∀ x ∈ xs, 0 ≤ x ∧ x < 256) (frm : Int) (h1 : -9223372036854775808 ≤ frm) (h2 : frm ≤ 9223372036854775807)
include hsm hrow hb h1 h2
set_option maxRecDepth 100000 in
theorem next_any : Calls Tryz.prog 135 #[.slice A xs.length c, .int .i64 frm] w (Placed w (nextI false xs frm)) := by
  have hbx : Below w.heap.size w (w.alloc (.cells #[.int .i64 0] 27)) := (Below.refl _ _).alloc (Nat.le_refl _) _
  have hf := first_any A c xs hsm _ ((hrow.below hbx).more (by simp)) hb frm h1 h2 _ 1 1 [0] (vrow_new w 27 [.int .i64 0] (by simp)) (by omega)
  rw [firstW_next] at hf
  have HF := Lib.hid hf
  have HB := Lib.hid hbx
  clear hf hrow hb hsm hbx
  go_enter Tryz.func135, Tryz.ntmps135
  go_wp2_with fail
  refine HF.out.mono ?_
  rintro e w1 ⟨rfl, hb1⟩
  have HB1 := Lib.hid (HB.out.trans (hb1.mono (by simp)))
  clear hb1
  go_wp2_with fail
  go_ret2
  exact ⟨rfl, HB1.out⟩
end
end Go.Proofs.YtimihhcidbeonaaGreat

namespace Go.Proofs.YtimihhcidbeonaaGreat
open Go.RowKit
set_option maxRecDepth 100000 in
theorem skipped_any (a r : Nat) (ha : a ≤ r) (hr : r ≤ 9223372036854775807) (w : World) :
    Calls Tryz.prog 136 #[.int .i64 a, .int .i64 r] w fun e w' => e = .returned (.agg #[.int .i64 a, .int .i64 (r - a : Nat), .bool false, .int .i64 0, .slice none 0 0]) ∧ Below w.heap.size w w' := by
  have h1 : (0 : Int) ≤ a := by omega
  have h2 : (a : Int) ≤ r := by omega
  have h3 : (r : Int) ≤ 9223372036854775807 := by omega
  have h4 : ((r - a : Nat) : Int) = (r : Int) - a := by omega
  rw [h4]
  clear h4
  go_enter Tryz.func136, Tryz.ntmps136
  go_wp2_with fail
  refine bodyPost_ret (v := .agg #[.int .i64 a, .int .i64 (r - a), .bool false, .int .i64 0, .slice none 0 0]) (by simp [results, Tryz.results136, go_sem]) rfl ?_
  exact ⟨rfl, (Below.refl _ _).alloc (Nat.le_refl _) _⟩
/-- What framePart answers of what begins at a place. -/
def Part (w : World) (k : Nat) (t : (Int × List Int) × Nat × Int) (r : Ending) (w' : World) : Prop :=
  ∃ A c, r = .returned (.agg #[.int .i64 k, .int .i64 t.2.1, .bool true, .int .i64 t.1.1, .slice A t.1.2.length c]) ∧ Row w' w'.heap.size (.slice A t.1.2.length c) t.1.2 ∧ Below w.heap.size w w'
set_option maxRecDepth 100000 in
theorem framePart_any (A : Option Addr) (c : Nat) (xs : List Int) (hsm : xs.length ≤ 9223372036854775807) (w : World) (hrow : Row w w.heap.size (.slice A xs.length c) xs) (hb : ∀ x ∈ xs, 0 ≤ x ∧ x < 256) (k : Nat) (hk : k ≤ xs.length) :
    Calls Tryz.prog 137 #[.slice A xs.length c, .int .i64 k] w (Part w k (getFr (xs.drop k))) := by
  have HAT := Lib.hid (fun W (h : Row W W.heap.size (.slice A xs.length c) xs) => at_in A c xs hsm W h hb k hk)
  have HROW := Lib.hid hrow
  clear hrow hb
  generalize getFr (xs.drop k) = t at HAT ⊢
  have k0 : (0 : Int) ≤ k := by omega
  have k1 : (k : Int) ≤ 9223372036854775807 := by omega
  go_enter Tryz.func137, Tryz.ntmps137
  go_wp2_with fail
  refine (HAT.out _ ((HROW.out.below ((Below.refl _ _).alloc (Nat.le_refl _) _)).more (by simp))).mono ?_
  rintro e w1 ⟨A1, c1, rfl, hrow1, hb1⟩
  have hz1 : w.heap.size + 1 ≤ w1.heap.size := by simpa using hb1.size
  have hres : Held w1 w.heap.size 80 #[.int .i64 0, .int .i64 0, .bool false, .int .i64 0, .slice none 0 0] := (hb1.block w.heap.size (by simp)).trans (heap_alloc_new w _)
  have bw1 : Below w.heap.size w w1 := ((Below.refl _ _).alloc (Nat.le_refl _) _).trans (hb1.mono (by simp))
  have hres2 : ∀ o : Obj, Held (w1.alloc o) w.heap.size 80 #[.int .i64 0, .int .i64 0, .bool false, .int .i64 0, .slice none 0 0] := fun o => hres.below ((Below.refl _ _).alloc (Nat.le_refl _) _) (by omega)
  have hr0 := fun o => (hres2 o).cell 0
  have hr1 := fun o => (hres2 o).cell 1
  have hr2 := fun o => (hres2 o).cell 2
  have hr3 := fun o => (hres2 o).cell 3
  have hr4 := fun o => (hres2 o).cell 4
  have hf0 := fun o => (hres2 o).frozen 0
  have hf1 := fun o => (hres2 o).frozen 1
  have hf2 := fun o => (hres2 o).frozen 2
  have hf3 := fun o => (hres2 o).frozen 3
  have hf4 := fun o => (hres2 o).frozen 4
  simp at hr0 hr1 hr2 hr3 hr4
  have HRES2 := Lib.hid hres2
  clear hres2
  have HROW1 := Lib.hid hrow1
  have HB1 := Lib.hid bw1
  have HRES := Lib.hid hres
  clear hb1 hrow1 bw1 hres
  go_wp2_with fail
  have hfin := (((((HRES2.out (.cells #[.int .i64 t.1.1, .slice A1 t.1.2.length c1] 78)).put 0 (.int .i64 k)).put 1 (.int .i64 t.2.1)).put 2 (.bool true)).put 3 (.int .i64 t.1.1)).put 4 (.slice A1 t.1.2.length c1)
  have e0 := hfin.cell 0
  have e1 := hfin.cell 1
  have e2 := hfin.cell 2
  have e3 := hfin.cell 3
  have e4 := hfin.cell 4
  simp at e0 e1 e2 e3 e4
  refine bodyPost_ret (v := .agg #[.int .i64 k, .int .i64 t.2.1, .bool true, .int .i64 t.1.1, .slice A1 t.1.2.length c1]) (by simp [results, Tryz.results137, go_sem, e0, e1, e2, e3, e4]) rfl ?_
  refine ⟨A1, c1, rfl, ?_, ?_⟩
  · refine (HROW1.out.keep_but (g := w.heap.size) (fun k hk hn => ?_) (fun i n => ?_)).more (by simp)
    · rw [Below.heap_setCell _ _ _ k hn, Below.heap_setCell _ _ _ k hn, Below.heap_setCell _ _ _ k hn, Below.heap_setCell _ _ _ k hn, Below.heap_setCell _ _ _ k hn, Below.heap_alloc _ _ _ hk]
    · rw [HRES.out.cell]
      match i with
      | 0 => simp
      | 1 => simp
      | 2 => simp
      | 3 => simp
      | 4 => simp
      | i + 5 => simp
  · exact (((((HB1.out.alloc (by omega) _).setCell (p := ⟨w.heap.size, 0, none⟩) (Nat.le_refl _) _).setCell (p := ⟨w.heap.size, 1, none⟩) (Nat.le_refl _) _).setCell (p := ⟨w.heap.size, 2, none⟩) (Nat.le_refl _) _).setCell (p := ⟨w.heap.size, 3, none⟩) (Nat.le_refl _) _).setCell (p := ⟨w.heap.size, 4, none⟩) (Nat.le_refl _) _
end Go.Proofs.YtimihhcidbeonaaGreat
namespace Go.Proofs.YtimihhcidbeonaaGreat
open Go.RowKit
/-- A part, and where its frame's payload lies. -/
structure Pt where
  s : Sg
  A : Option Addr
  c : Nat
/-- Its payload's value. -/
abbrev Pt.pv (p : Pt) : Value := .slice p.A p.s.pay.length p.c
/-- Its cells. -/
def Pt.cells (p : Pt) : List Value := [.int .i64 p.s.frm, .int .i64 p.s.n, .bool p.s.isf, .int .i64 p.s.kind, .slice p.A p.s.pay.length p.c]
/-- Its value. -/
abbrev Pt.val (p : Pt) : Value := .agg #[.int .i64 p.s.frm, .int .i64 p.s.n, .bool p.s.isf, .int .i64 p.s.kind, .slice p.A p.s.pay.length p.c]
/-- Its payload reads as it. -/
def Pt.Reads (w : World) (B : Nat) (p : Pt) : Prop := Row w B p.pv p.s.pay
/-- The cells of parts, one behind the other. -/
def flatS : List Pt → List Value
  | [] => []
  | p :: l => p.cells ++ flatS l
theorem flatS_length : ∀ l : List Pt, (flatS l).length = l.length * 5
  | [] => rfl
  | p :: l => by
    rw [flatS, List.length_append, flatS_length l, List.length_cons, show p.cells.length = 5 from rfl]
    omega
theorem flatS_append : ∀ l m : List Pt, flatS (l ++ m) = flatS l ++ flatS m
  | [], _ => rfl
  | p :: l, m => by rw [List.cons_append, flatS, flatS, flatS_append l m, List.append_assoc]
theorem flatS_one (p : Pt) : flatS [p] = p.cells := by rw [flatS, flatS, List.append_nil]
theorem flatS_at : ∀ (l : List Pt) (i : Nat) (p : Pt), l[i]? = some p → ∀ j u, p.cells[j]? = some u → (flatS l)[i * 5 + j]? = some u
  | [], i, p, h, _, _, _ => by simp at h
  | q :: l, 0, p, h, j, u, hj => by
    simp only [List.getElem?_cons_zero, Option.some.injEq] at h
    subst h
    have hlt := (List.getElem?_eq_some_iff.1 hj).1
    rw [flatS, Nat.zero_mul, Nat.zero_add, List.getElem?_append_left hlt]
    exact hj
  | q :: l, i + 1, p, h, j, u, hj => by
    rw [List.getElem?_cons_succ] at h
    rw [flatS, show (i + 1) * 5 + j = q.cells.length + (i * 5 + j) by rw [show q.cells.length = 5 from rfl]; omega, List.getElem?_append_right (by omega), Nat.add_sub_cancel_left]
    exact flatS_at l i p h j u hj
theorem cells_one (p : Pt) : ∀ u ∈ p.cells, u.oneCell' = true := by
  intro u hu
  simp only [Pt.cells, List.mem_cons, List.not_mem_nil, or_false] at hu
  rcases hu with rfl | rfl | rfl | rfl | rfl <;> rfl
theorem cells_nob (p : Pt) : ∀ u ∈ p.cells, ∀ n : Int, u ≠ .int .u8 n := by
  intro u hu n
  simp only [Pt.cells, List.mem_cons, List.not_mem_nil, or_false] at hu
  rcases hu with rfl | rfl | rfl | rfl | rfl <;> simp
theorem flatS_nob : ∀ l : List Pt, ∀ u ∈ flatS l, ∀ n : Int, u ≠ .int .u8 n
  | [], u, hu, _ => by simp [flatS] at hu
  | p :: l, u, hu, n => by
    rw [flatS] at hu
    rcases List.mem_append.1 hu with h | h
    · exact cells_nob p u h n
    · exact flatS_nob l u h n
/-- No byte stands in the block of a slice's own row. -/
def Clean (w : World) (v : Value) : Prop := ∀ g, v.ownBlock = some g → ∀ (i : Nat) (n : Int), w.cell? ⟨g, i, none⟩ ≠ some (.int .u8 n)
/-- A slice of parts of the call's own. -/
def Segs (w : World) (n0 : Nat) (v : Value) (ps : List Pt) : Prop :=
  w.ownsRow n0 80 5 v ps.length (flatS ps) ∧ Clean w v ∧ ∀ p ∈ ps, p.Reads w w.heap.size
section
variable {w w' : World} {n0 B : Nat} {v : Value} {ps : List Pt}
theorem Pt.Reads.below {p : Pt} (h : p.Reads w w.heap.size) (hb : Below w.heap.size w w') : p.Reads w' w'.heap.size := (Row.below h hb).more hb.size
/-- What turns blocks alone in which no byte stands turns no payload. -/
theorem Pt.Reads.grown {p : Pt} {row : Option Nat} (h : p.Reads w w.heap.size) (hg : w.grownBy w' row) (hr : ∀ k, row = some k → ∀ (i : Nat) (n : Int), w.cell? ⟨k, i, none⟩ ≠ some (.int .u8 n)) : p.Reads w' w'.heap.size := by
  refine Row.more (w := w') ?_ hg.size
  cases row with
  | none => exact h.keep fun a ha => World.cell?_of_block (hg.block a.block ha (by simp))
  | some g => exact h.keep_but (g := g) (fun k hk hn => hg.block k hk (fun e => hn (by injection e))) (hr g rfl)
theorem Segs.nil (w : World) (n0 : Nat) : Segs w n0 (.slice none 0 0) [] := ⟨World.ownsRow_nil _ _ _ _, fun g h => by simp [Value.ownBlock] at h, by simp⟩
/-- What turns another block, in which no byte stands. -/
theorem Segs.kept {row : Option Nat} (h : Segs w n0 v ps) (hg : w.grownBy w' row) (hne : v.ownBlock = none ∨ v.ownBlock ≠ row) (hr : ∀ k, row = some k → ∀ (i : Nat) (n : Int), w.cell? ⟨k, i, none⟩ ≠ some (.int .u8 n)) : Segs w' n0 v ps := by
  obtain ⟨h1, h2, h3⟩ := h
  refine ⟨h1.kept hg hne, fun g e i n => ?_, fun p hp => (h3 p hp).grown hg hr⟩
  have hlt := (h1.lt g e).2
  rw [World.cell?_of_block (a := ⟨g, i, none⟩) (hg.block g hlt (fun e2 => hne.elim (fun h => by rw [e] at h; cases h) (fun h => h (e.trans e2.symm.symm))))]
  exact h2 g e i n
theorem Segs.below (h : Segs w n0 v ps) (hb : Below w.heap.size w w') : Segs w' n0 v ps :=
  h.kept (row := none) ⟨hb.os, hb.tape, hb.output, hb.size, fun k hk _ => hb.block k hk⟩ (Classical.em _) (fun k e => by cases e)
theorem Segs.alloc (h : Segs w n0 v ps) (o : Obj) : Segs (w.alloc o) n0 v ps := h.below ((Below.refl _ _).alloc (Nat.le_refl _) o)
theorem Segs.putObj {l : Nat} {o : Obj} (h : Segs w n0 v ps) (o' : Obj) (hl : w.heap[l]? = some o) (ho : o.isCells = false) : Segs (w.putObj l o') n0 v ps := by
  refine h.kept (grownBy_putObj' w l o') ?_ (fun k e i n hc => ?_)
  · rcases h.1.2 with ⟨rfl, _⟩ | ⟨g, cap, cur, rfl, _, hgb, _⟩
    · exact .inl rfl
    · refine .inr fun e => ?_
      obtain rfl : g = l := by simpa [Value.ownBlock] using e
      rw [hgb] at hl
      cases hl
      cases ho
  · obtain rfl : l = k := by injection e
    obtain ⟨o2, ho2, hc2⟩ := cells_of_cell hc
    rw [show w.heap[l]? = some o from hl] at ho2
    cases ho2
    rw [ho] at hc2
    cases hc2
/-- What turns no cells. -/
def Turned (w w' : World) (row : Option Nat) : Prop := w.grownBy w' row ∧ ∀ r, row = some r → ∃ o : Obj, w.heap[r]? = some o ∧ o.isCells = false
theorem Turned.nob {row : Option Nat} (h : Turned w w' row) : ∀ k, row = some k → ∀ (i : Nat) (n : Int), w.cell? ⟨k, i, none⟩ ≠ some (.int .u8 n) := by
  intro k e i n hc
  obtain ⟨o, ho, hn⟩ := h.2 k e
  obtain ⟨o2, ho2, hc2⟩ := cells_of_cell hc
  rw [show w.heap[k]? = some o from ho] at ho2
  cases ho2
  rw [hn] at hc2
  cases hc2
theorem Turned.block {row : Option Nat} (h : Turned w w' row) {g : Nat} {cs : Array Value} {t : TypeId} {fr : Nat × Nat} (hg : w.heap[g]? = some (.cells cs t fr)) : w'.heap[g]? = some (.cells cs t fr) := by
  refine (h.1.block g (Array.getElem?_eq_some_iff.1 hg).1 fun e => ?_).trans hg
  obtain ⟨o, ho, hn⟩ := h.2 g e.symm
  rw [hg] at ho
  cases ho
  cases hn
theorem Segs.turned {row : Option Nat} (h : Segs w n0 v ps) (ht : Turned w w' row) : Segs w' n0 v ps := by
  refine h.kept ht.1 ?_ ht.nob
  rcases h.1.2 with ⟨rfl, _⟩ | ⟨g, cap, cur, rfl, _, hgb, _⟩
  · exact .inl rfl
  · refine .inr fun e => ?_
    obtain ⟨o, ho, hn⟩ := ht.2 g (by rw [← e]; rfl)
    rw [hgb] at ho
    cases ho
    cases hn
theorem Pt.Reads.turned {p : Pt} {row : Option Nat} (h : p.Reads w w.heap.size) (ht : Turned w w' row) : p.Reads w' w'.heap.size := h.grown ht.1 ht.nob
/-- A row of one's own of another type's elements lies elsewhere. -/
theorem Segs.apart {g : Nat} {t : TypeId} {cs : Array Value} {fr : Nat × Nat} (h : Segs w n0 v ps) (hg : w.heap[g]? = some (.cells cs t fr)) (ht : t ≠ 80) : v.ownBlock = none ∨ v.ownBlock ≠ some g := by
  rcases h.1.2 with ⟨rfl, _⟩ | ⟨g', cap, cur, rfl, _, hgb, _⟩
  · exact .inl rfl
  · refine .inr fun e => ?_
    obtain rfl : g' = g := by simpa [Value.ownBlock] using e
    rw [hgb] at hg
    injection hg with hg
    injection hg with _ e3 _
    exact ht e3.symm
theorem Segs.form (h : Segs w n0 v ps) : ∃ A c, v = .slice A ps.length c ∧ ps.length ≤ c ∧ c ≤ 9223372036854775807 := by
  rcases h.1.2 with ⟨rfl, h0⟩ | ⟨g, cap, cur, rfl, _, _, h1, h2, _⟩
  · exact ⟨none, 0, by rw [h0], by omega, by omega⟩
  · unfold maxLen at h2
    exact ⟨_, cap, rfl, h1, by omega⟩
end
/-- append of a part behind a slice of parts of the call's own. -/
theorem run_append_seg {P : Program} (w : World) (t ty : TypeId) (i : TypeInfo) (z : Value) (ht : P.underlying t = some (.slice 80)) (hi : P.info? 80 = some i) (hz : i.zero = some z)
    (hsize : i.size = 5) (hby : i.bytes ≤ 100) (hzs : z.cells = #[.int .i64 0, .int .i64 0, .bool false, .int .i64 0, .slice none 0 0])
    (n0 : Nat) (v : Value) (ps : List Pt) (hs : Segs w n0 v ps) (ad : Addr) (c : Nat) (p : Pt) (hc : ∀ j u, p.cells[j]? = some u → w.cell? (ad.add j) = some u) (hp : p.Reads w w.heap.size)
    (hlen : ps.length + 1 ≤ 1000000000000) (hbase : n0 ≤ w.heap.size) :
    ∃ v' w', (Builtin.append_ #[t, t] ty #[v, .slice (some ad) 1 c]).run P w = .ok v' w' ∧ Segs w' n0 v' (ps ++ [p]) ∧ w.grownBy w' v.ownBlock := by
  have hl5 : p.cells.length = 1 * 5 := rfl
  have hb2 : (ps.length + 1) * i.bytes ≤ 140737488355328 := Nat.le_trans (Nat.mul_le_mul hlen hby) (by omega)
  have hm : ps.length + 1 ≤ maxLen := by unfold maxLen; omega
  obtain ⟨v', w', hrun, hown, hgr, _⟩ := run_append_own (P := P) w n0 t ty _ i z 5 i.bytes ht hi hz hsize rfl (by rw [hzs]; rfl) (by omega) v ps.length (flatS ps) hs.1 ad 1 c p.cells hl5 hc (cells_one p) hm hb2 hbase
  refine ⟨v', w', hrun, ⟨by simpa [flatS_append, flatS_one] using hown, ?_, fun q hq => ?_⟩, hgr⟩
  · -- what it comes to, written out
    have hzb : ∀ (k : Nat) (u : Value), u ∈ (Builtin.zeroCells z.cells k).toList → ∀ n : Int, u ≠ .int .u8 n := by
      intro k u hu n
      simp only [Builtin.zeroCells, hzs] at hu
      simp at hu
      obtain ⟨a, _, rfl⟩ := hu
      have ha : a % 5 = 0 ∨ a % 5 = 1 ∨ a % 5 = 2 ∨ a % 5 = 3 ∨ a % 5 = 4 := by omega
      rcases ha with e | e | e | e | e <;> rw [e] <;> simp
    have new : ∀ (cur : Array Value), (∀ u ∈ cur.toList, ∀ n : Int, u ≠ .int .u8 n) → ∀ (i : Nat) (n : Int), (w.drew.alloc (.cells cur 80)).cell? ⟨w.heap.size, i, none⟩ ≠ some (.int .u8 n) := by
      intro cur hcur i n e
      rw [cell_of_row _ w.heap.size i cur _ (0, 0) (heap_alloc_new w.drew _)] at e
      exact hcur _ (by obtain ⟨hlt, he⟩ := Array.getElem?_eq_some_iff.1 e; rw [← he]; exact Array.getElem_mem_toList hlt) n rfl
    intro g hg i' n
    rcases hs.1.2 with ⟨rfl, h0⟩ | ⟨b, cap, cur, rfl, _, hgb, hnc, hcm, hcs, htake⟩
    · have hr := run_append_nil (P := P) w t ty _ i z ht hi hz ad 1 c p.cells (by rw [hsize]; exact hl5) hc (by omega) (by omega) (by omega)
      rw [hrun] at hr
      injection hr with e1 e2
      subst e1 e2
      obtain rfl : w.heap.size = g := by simpa [Value.ownBlock] using hg
      refine new _ (fun u hu => ?_) i' n
      simp only [Array.toList_append, List.mem_append] at hu
      rcases hu with hu | hu
      · exact cells_nob p u hu
      · exact hzb _ u hu
    · by_cases hroom : ps.length + 1 ≤ cap
      · have hr := run_append_room (P := P) w t ty _ i ht hi b ps.length cap cur hgb ad 1 c p.cells (by rw [hsize]; exact hl5) hc (cells_one p) hroom (by rw [hsize, hcs, hl5]; omega)
        rw [hrun] at hr
        injection hr with e1 e2
        subst e1 e2
        obtain rfl : b = g := by simpa [Value.ownBlock] using hg
        rw [cell_setRow_same w b i' cur _ _ _ hgb]
        intro e
        have hmem : (Value.int .u8 n) ∈ cur.toList.take (ps.length * i.size) ++ p.cells ++ cur.toList.drop (ps.length * i.size + p.cells.length) := by
          rw [List.getElem?_toArray] at e
          exact List.mem_of_getElem? e
        have hold : ∀ u ∈ cur.toList, ∀ n : Int, u ≠ .int .u8 n := by
          intro u hu n e
          obtain ⟨k, hk⟩ := List.mem_iff_getElem?.1 hu
          refine hs.2.1 b rfl k n ?_
          rw [cell_of_row w b k cur _ _ hgb, ← e]
          simpa using hk
        rcases List.mem_append.1 hmem with h | h
        · rcases List.mem_append.1 h with h | h
          · exact hold _ (List.mem_of_mem_take h) n rfl
          · exact cells_nob p _ h n rfl
        · exact hold _ (List.mem_of_mem_drop h) n rfl
      · have hr := run_append_grow (P := P) w t ty _ i z ht hi hz ⟨b, 0, none⟩ ps.length cap (flatS ps) (by rw [hsize]; exact flatS_length ps) (hs.1.cells (g := b) rfl) ad 1 c p.cells (by rw [hsize]; exact hl5) hc (by omega) (by omega) (growslice_fits (by omega) hb2)
        rw [hrun] at hr
        injection hr with e1 e2
        subst e1 e2
        obtain rfl : w.heap.size = g := by simpa [Value.ownBlock] using hg
        refine new _ (fun u hu => ?_) i' n
        simp only [Array.toList_append, List.mem_append] at hu
        rcases hu with (hu | hu) | hu
        · exact flatS_nob ps u hu
        · exact cells_nob p u hu
        · exact hzb _ u hu
  · rcases List.mem_append.1 hq with h | h
    · exact (hs.2.2 q h).grown hgr hs.2.1
    · obtain rfl : q = p := by simpa using h
      exact hp.grown hgr hs.2.1
/-- The same inside a fence. -/
theorem wpListIn_append_seg {F : Fence} {n : Nat} {P : Program} {w : World} {ops : Array Oper} {rest : List Oper} {o : Oper} {a : Act} {Q : Exit → Act → World → Prop} (hgd : o.guard = none) (s x : Operand) (t : TypeId)
    (ho : o.op = Op.call { callee := Callee.builtin Builtin.append, args := #[s, x], argTypes := #[t, t] })
    (i : TypeInfo) (z : Value) (ht : P.underlying t = some (.slice 80)) (hi : P.info? 80 = some i) (hz : i.zero = some z)
    (hsize : i.size = 5) (hby : i.bytes ≤ 100) (hzs : z.cells = #[.int .i64 0, .int .i64 0, .bool false, .int .i64 0, .slice none 0 0])
    (n0 : Nat) (v : Value) (ps : List Pt) (hs : a.eval s = v) (hown : Segs w n0 v ps) (ad : Addr) (c : Nat) (p : Pt) (hx : a.eval x = .slice (some ad) 1 c) (hc : ∀ j u, p.cells[j]? = some u → w.cell? (ad.add j) = some u) (hp : p.Reads w w.heap.size)
    (hlen : ps.length + 1 ≤ 1000000000000) (hbase : n0 ≤ w.heap.size)
    (h : ∀ v' w', Segs w' n0 v' (ps ++ [p]) → w.grownBy w' v.ownBlock → wpListIn F n P ops Q rest (a.put o.dst v') w') : wpListIn F n P ops Q (o :: rest) a w := by
  refine wpListIn_plain hgd fun K hK' => ?_
  obtain ⟨v', w', hrun, h2, h3⟩ := run_append_seg (P := P) w t o.type i z ht hi hz hsize hby hzs n0 v ps hown ad c p hc hp hlen hbase
  unfold Oper.wpIn
  refine ⟨?_, ?_⟩
  · simp [Oper.about, ho, resolve, Target.leads, Sem.run_pure]
  · rw [Oper.semAt_plain F _ _ (by rw [ho]; intro c hc'; cases hc')]
    simp [execOp, ho, resolve, invoke, builtin, hs, hx, hrun, Result.andThen]
    exact hK' _ _ (h v' w' h2 h3)
/-- The slice value reads as parts; they lie in a block below B. -/
def SegRow (w : World) (B : Nat) (v : Value) (ps : List Pt) : Prop :=
  ∃ A c, v = .slice A ps.length c ∧ ps.length ≤ c ∧ c ≤ maxLen ∧ (A = none → c = 0) ∧
    (0 < ps.length → ∃ b o, A = some ⟨b, o, none⟩ ∧ b < B ∧ ∀ i p, ps[i]? = some p → ∀ j u, p.cells[j]? = some u → w.cell? ⟨b, o + i * 5 + j, none⟩ = some u) ∧ ∀ p ∈ ps, p.Reads w B
section
variable {w w' : World} {n0 B : Nat} {v : Value} {ps : List Pt}
theorem Segs.row (h : Segs w n0 v ps) : SegRow w w.heap.size v ps := by
  obtain ⟨h1, _, h3⟩ := h
  rcases h1.2 with ⟨rfl, h0⟩ | ⟨g, cap, cur, rfl, _, hg, hnc, hcm, _, _⟩
  · obtain rfl : ps = [] := List.eq_nil_of_length_eq_zero h0
    exact ⟨none, 0, rfl, Nat.le_refl _, Nat.zero_le _, fun _ => rfl, fun h => absurd h (by simp), by simp⟩
  · refine ⟨some ⟨g, 0, none⟩, cap, rfl, hnc, hcm, by simp, fun _ => ⟨g, 0, rfl, (Array.getElem?_eq_some_iff.1 hg).1, fun i p hp j u hj => ?_⟩, h3⟩
    have := flatS_at ps i p hp j u hj
    have hlt := (List.getElem?_eq_some_iff.1 this).1
    rw [flatS_length] at hlt
    rw [Nat.zero_add, h1.cellAt _ hlt]
    exact this
theorem SegRow.below (h : SegRow w w.heap.size v ps) (hb : Below w.heap.size w w') : SegRow w' w'.heap.size v ps := by
  obtain ⟨A, c, hv, h1, h2, h3, h4, h5⟩ := h
  refine ⟨A, c, hv, h1, h2, h3, fun hn => ?_, fun p hp => (h5 p hp).below hb⟩
  obtain ⟨b, o, e, hlt, hc⟩ := h4 hn
  exact ⟨b, o, e, Nat.lt_of_lt_of_le hlt hb.size, fun i p hp j u hj => (hb.cell (p := ⟨b, o + i * 5 + j, none⟩) hlt).trans (hc i p hp j u hj)⟩
/-- The cells of the part at a place. -/
theorem SegRow.at {A : Option Addr} {n c : Nat} (h : SegRow w B (.slice A n c) ps) {i : Nat} {p : Pt} (hp : ps[i]? = some p) : ∃ b o, A = some ⟨b, o, none⟩ ∧ b < B ∧
    w.cell? ⟨b, o + i * 5, none⟩ = some (.int .i64 p.s.frm) ∧ w.cell? ⟨b, o + i * 5 + 1, none⟩ = some (.int .i64 p.s.n) ∧ w.cell? ⟨b, o + i * 5 + 2, none⟩ = some (.bool p.s.isf) ∧
    w.cell? ⟨b, o + i * 5 + 3, none⟩ = some (.int .i64 p.s.kind) ∧ w.cell? ⟨b, o + i * 5 + 4, none⟩ = some (.slice p.A p.s.pay.length p.c) ∧ p.Reads w B := by
  obtain ⟨A', c', hv, h1, h2, h3, h4, h5⟩ := h
  injection hv with e1 e2 e3
  subst e1 e3
  have hlt := (List.getElem?_eq_some_iff.1 hp).1
  obtain ⟨b, o, rfl, hb, hc⟩ := h4 (by omega)
  exact ⟨b, o, rfl, hb, hc i p hp 0 _ rfl, hc i p hp 1 _ rfl, hc i p hp 2 _ rfl, hc i p hp 3 _ rfl, hc i p hp 4 _ rfl, h5 p (List.mem_of_getElem? hp)⟩
end
theorem Tryz.infoSeg : (Tryz.prog.info? 80).map (fun i => (i.zero, i.size, i.bytes)) = some (some (.agg #[.int .i64 0, .int .i64 0, .bool false, .int .i64 0, .slice none 0 0]), 5, 56) := by kernel_rfl
end Go.Proofs.YtimihhcidbeonaaGreat
namespace Go.Proofs.YtimihhcidbeonaaGreat
open Go.RowKit
theorem map_snoc (pre : List Pt) (x : Pt) : (pre ++ [x]).map (·.s) = pre.map (·.s) ++ [x.s] := by simp
/-- What is collected: the parts, in a slice of the call's own. -/
def Collected (xs : List Int) (w : World) (e : Ending) (w' : World) : Prop :=
  ∃ v ps, e = .returned v ∧ PartsS xs 0 (ps.map (·.s)) ∧ Segs w' w.heap.size v ps ∧ Below w.heap.size w w'
end Go.Proofs.YtimihhcidbeonaaGreat

namespace Go.Proofs.YtimihhcidbeonaaGreat
open Go.RowKit Go.ChangeShapes Go.WideShapes
set_option linter.unusedVariables false
/-- A part of bytes, as a part of any. -/
def sgJ (s : Sg) : Sj := ⟨s.frm, s.n, s.isf, s.kind, s.pay⟩
def toJ (p : Pt) : Jm := ⟨sgJ p.s, p.A, p.c⟩
theorem flatS5_pt : ∀ l : List Pt, flatS5 (l.map toJ) = flatS l
  | [] => rfl
  | p :: l => by
    rw [List.map_cons, flatS5, flatS5_pt l]
    rfl
theorem parts_pay {xs : List Int} (hx : ∀ x ∈ xs, 0 ≤ x ∧ x < 256) {a : Nat} {l : List Sg} (h : PartsS xs a l) : ∀ s ∈ l, s.pay.length ≤ 4096 ∧ ∀ y ∈ s.pay, 0 ≤ y ∧ y < 256 := by
  induction h with
  | stop a h => simp
  | rest a h hn =>
    intro s hs
    obtain rfl := List.mem_singleton.1 hs
    exact ⟨Nat.zero_le _, by simp [skipS]⟩
  | fr a l h hb hl ih =>
    intro s hs
    rcases List.mem_cons.1 hs with rfl | hs
    · obtain ⟨_, _, _, h4, h5, _⟩ := begins_in hx hb
      exact ⟨h4, h5⟩
    · exact ih s hs
  | gap a r l ha h hn hb hl ih =>
    intro s hs
    rcases List.mem_cons.1 hs with rfl | hs
    · exact ⟨Nat.zero_le _, by simp [skipS]⟩
    · rcases List.mem_cons.1 hs with rfl | hs
      · obtain ⟨_, _, _, h4, h5, _⟩ := begins_in hx hb
        exact ⟨h4, h5⟩
      · exact ih s hs
/-- What is read of bytes. -/
def ofG (xs : List Int) (g : Gp) : Prop := ∃ l, PartsS xs 0 l ∧ g = takeL noG (l.map sgJ)
end Go.Proofs.YtimihhcidbeonaaGreat

namespace Go.Proofs.YtimihhcidbeonaaGreat
open Go.RowKit Go.Shelf
attribute [local go_sem] Oper.semAt_some
/-- What a round is told of what it is handed. -/
def PtOk (xs : List Int) (p : Pt) (w : World) : Prop := p.Reads w w.heap.size ∧ p.s.frm + p.s.n ≤ xs.length
/-- What a round keeps: what lies below n₀, the block Bn, and what has been laid from block m on. -/
def KeepsB (n₀ Bn m : Nat) (w w' : World) : Prop := Below n₀ w w' ∧ w'.heap[Bn]? = w.heap[Bn]? ∧ ∀ k, m ≤ k → k < w.heap.size → w'.heap[k]? = w.heap[k]?
theorem KeepsB.refl (n₀ Bn m : Nat) (w : World) : KeepsB n₀ Bn m w w := ⟨Below.refl _ _, rfl, fun _ _ _ => rfl⟩
theorem KeepsB.trans {n₀ Bn m : Nat} {a b c : World} (h : KeepsB n₀ Bn m a b) (k : KeepsB n₀ Bn m b c) : KeepsB n₀ Bn m a c :=
  ⟨h.1.trans k.1, k.2.1.trans h.2.1, fun i h1 h2 => (k.2.2 i h1 (Nat.lt_of_lt_of_le h2 h.1.size)).trans (h.2.2 i h1 h2)⟩
theorem KeepsB.turn {n₀ Bn : Nat} {w : World} (hn : n₀ ≤ w.heap.size) (hB : Bn < w.heap.size) (m : Nat) (W : World) (l : Nat) (o o' : Obj) (hl : w.heap.size ≤ l) (hm : l < m) (h : W.heap[l]? = some o) (_ : o.isCells = false) : KeepsB n₀ Bn m W (W.putObj l o') :=
  ⟨(Below.refl n₀ W).grown (grownBy_putObj' W l o') (by have := (Array.getElem?_eq_some_iff.1 h).1; omega) (fun k e => by cases e; omega), World.putObj_heap_other (by omega), fun k h1 _ => World.putObj_heap_other (by omega)⟩
theorem step_next {xs : List Int} {a : Nat} (h : nextI false xs a = -1) : max (nextI false xs a) 0 = 0 ∧ decide (0 ≤ nextI false xs a) = false := by rw [h]; exact ⟨rfl, rfl⟩
theorem step_found {xs : List Int} {a r : Nat} (h : nextI false xs a = (r : Int)) : max (nextI false xs a) 0 = (r : Int) ∧ decide (0 ≤ nextI false xs a) = true := by
  rw [h]
  exact ⟨by omega, by simp⟩
set_option maxRecDepth 100000 in
set_option maxHeartbeats 2000000 in
theorem parts1_in (n : Nat) (hn : 1 ≤ n) (l Bn n₀ : Nat) (A : Option Addr) (c : Nat) (xs : List Int) (hsm : xs.length ≤ 1000000000000) (hbx : ∀ x ∈ xs, 0 ≤ x ∧ x < 256) (J : List Pt → World → Prop) (W : World)
    (hY : ∀ pre x W0 W1, J pre W0 → Below W0.heap.size W0 W1 → PtOk xs x W1 → pre.length < xs.length → YieldAt Fence.wide (n - 1) Tryz.prog l #[x.val] W1 fun e W' => e = .returned (.bool true) ∧ J (pre ++ [x]) W' ∧ KeepsB n₀ Bn W0.heap.size W1 W')
    (hBn : W.cell? ⟨Bn, 0, none⟩ = some (.slice A xs.length c)) (hlt : Bn < W.heap.size) (hn0 : n₀ ≤ W.heap.size) (hrow : Row W n₀ (.slice A xs.length c) xs) (h0 : J [] W) :
    CallsIn Fence.wide n Tryz.prog 134 #[.func (.yield l) #[] #[], .pointer (some ⟨Bn, 0, none⟩)] W fun e W' => (∃ v, e = .returned v) ∧ ∃ (ys : List Pt) (W0 : World), PartsS xs 0 (ys.map (·.s)) ∧ J ys W0 ∧ Below W0.heap.size W0 W' := by
  refine callsIn_of_wp Tryz.func134 rfl trivial ?_ rfl
  simp only [Tryz.ntmps134, List.size_toArray, List.length_cons, List.length_nil, Nat.reduceAdd, Nat.reduceSub, Array.replicate_succ, Array.replicate_zero, List.push_toArray, List.append_toArray, List.nil_append, List.cons_append]
  have HROW := Lib.hid hrow
  have HX := Lib.hid hbx
  have HY := Lib.hid hY
  have NX := Lib.hid (fun W1 (h : Row W1 W1.heap.size (.slice A xs.length c) xs) (a : Nat) (ha : a ≤ xs.length) => next_any A c xs (by omega) W1 h hbx a (by omega) (by omega))
  have FP := Lib.hid (fun W1 (h : Row W1 W1.heap.size (.slice A xs.length c) xs) (a : Nat) (ha : a ≤ xs.length) => framePart_any A c xs (by omega) W1 h hbx a ha)
  have HBN := Lib.hid hBn
  clear hrow hbx hY
  gi_wp2_with (refine ⟨trivial, ?_⟩; gi_at_call 135; refine (callsIn_wide.2 (NX.out _ (HROW.out.more hn0) 0 (Nat.zero_le _))).mono ?_; rintro e w1 ⟨rfl, hb1⟩)
  clear hBn
  have HN := Lib.hid (next_ways xs)
  gi_loopw [3, 4, 5] (fun f t d wr => ∃ (pre : List Pt) (a : Nat) (W0 : World), f = .int .i64 a ∧ t = .int .i64 (max (nextI false xs a) 0) ∧ d = .bool (decide (0 ≤ nextI false xs a)) ∧ a ≤ xs.length ∧ pre.length ≤ a ∧
      Hid (Ahead xs (pre.map (·.s)) a) ∧ J pre W0 ∧ Below W0.heap.size W0 wr ∧ Hid (Below n₀ W wr ∧ wr.heap[Bn]? = W.heap[Bn]?))
    (fun f _ _ _ => xs.length - (intOf f).toNat)
  case atStart =>
    exact ⟨[], 0, W, rfl, rfl, rfl, Nat.zero_le _, Nat.zero_le _, Ahead.start xs, h0, hb1, hb1.mono hn0, hb1.block _ hlt⟩
  case round =>
    clear hb1 h0
    obtain ⟨pre, a, W0, rfl, rfl, rfl, ha, hpl, HA, hJs, hk0, HK⟩ := hrel
    have hcb : wr.cell? ⟨Bn, 0, none⟩ = some (.slice A xs.length c) := (World.cell?_of_block HK.out.2).trans HBN.out
    have hnr : n₀ ≤ wr.heap.size := Nat.le_trans hn0 HK.out.1.size
    have HR := Lib.hid ((HROW.out.below HK.out.1).more hnr)
    rcases HN.out a with hno | ⟨r, hr⟩
    · obtain ⟨e1, e2⟩ := step_next hno
      have hnn := next_no (show nextI false xs a < 0 by omega)
      have HNN := Lib.hid hnn
      rw [e1, e2]
      clear e1 e2 hno hnn
      by_cases hal : a < xs.length
      · gi_wp2_with (refine ⟨trivial, ?_⟩; gi_at_call 136; refine (callsIn_wide.2 (skipped_any a xs.length ha (by omega) _)).mono ?_; rintro e w1 ⟨rfl, hb1⟩
                     obtain ⟨fn, tmps, assign, body, hy, hR⟩ := HY.out pre ⟨skipS a xs.length, none, 0⟩ W0 w1 hJs (hk0.trans (hb1.mono hk0.size)) ⟨Row.nil _ _, by simp only [skipS]; omega⟩ (by omega); dsimp only [Pt.val, skipS, List.length_nil] at hy)
        refine hR.mono ?_
        rintro e W3 ⟨rfl, hJ3, hk3⟩
        gi_wp2
        go_end0
        exact ⟨⟨_, rfl⟩, pre ++ [⟨skipS a xs.length, none, 0⟩], W3, by rw [map_snoc]; exact HA.out.last hal HNN.out, hJ3, Below.refl _ _⟩
      · have hal' : ¬ a < xs.length := hal
        gi_wp2
        go_end0
        exact ⟨⟨_, rfl⟩, pre, W0, HA.out.done (by omega), hJs, hk0⟩
    · obtain ⟨e1, e2⟩ := step_found hr
      obtain ⟨har, hrl, hbg, hnb⟩ := next_some hr
      have HBG := Lib.hid hbg
      have HNB := Lib.hid hnb
      obtain ⟨h9, hin, _⟩ := begins_in HX.out hbg
      have HFR := Lib.hid (fun p : List Pt => HA.out)
      rw [e1, e2]
      clear e1 e2 hr hbg hnb HFR
      obtain ⟨t, ht⟩ : ∃ t, getFr (xs.drop r) = t := ⟨_, rfl⟩
      have HT := Lib.hid ht
      rw [ht] at h9 hin
      clear ht
      have FR := Lib.hid (fun W1 (h : Row W1 W1.heap.size (.slice A xs.length c) xs) => FP.out W1 h r (by omega))
      rw [HT.out] at FR
      -- how a round ends behind what has been skipped
      by_cases hgt : a < r
      · gi_wp2_with (refine ⟨trivial, ?_⟩; gi_at_call 136; refine (callsIn_wide.2 (skipped_any a r har (by omega) _)).mono ?_; rintro e w1 ⟨rfl, hb1⟩
                     obtain ⟨fn, tmps, assign, body, hy, hR⟩ := HY.out pre ⟨skipS a r, none, 0⟩ W0 w1 hJs (hk0.trans (hb1.mono hk0.size)) ⟨Row.nil _ _, by simp only [skipS]; omega⟩ (by omega); dsimp only [Pt.val, skipS, List.length_nil] at hy)
        refine hR.mono ?_
        rintro e W3 ⟨rfl, hJ3, hk3⟩
        have HK3 : Hid (Below n₀ W W3 ∧ W3.heap[Bn]? = W.heap[Bn]?) := Lib.hid ⟨(HK.out.1.trans (hb1.mono hnr)).trans hk3.1, hk3.2.1.trans ((hb1.block Bn (Nat.lt_of_lt_of_le hlt HK.out.1.size)).trans HK.out.2)⟩
        clear hk3 hb1 hcb HR hnr hy hR hk0 HK
        have hcb : W3.cell? ⟨Bn, 0, none⟩ = some (.slice A xs.length c) := (World.cell?_of_block HK3.out.2).trans HBN.out
        have HR := Lib.hid ((HROW.out.below HK3.out.1).more (Nat.le_trans hn0 HK3.out.1.size))
        have hl3 : (pre ++ [(⟨skipS a r, none, 0⟩ : Pt)]).length < xs.length := by simp; omega
        have hnr : n₀ ≤ W3.heap.size := Nat.le_trans hn0 HK3.out.1.size
        have hltc : Bn < W3.heap.size := Nat.lt_of_lt_of_le hlt HK3.out.1.size
        gi_wp2_with fail
        refine ⟨trivial, ?_⟩
        refine (callsIn_wide.2 (FR.out _ HR.out)).mono ?_
        rintro e w4 ⟨A1, c1, rfl, hrow4, hb4⟩
        have hb5 := hb4.alloc (Nat.le_trans (Nat.le_refl _) hb4.size) (.cells #[.int .i64 r, .int .i64 t.2.1, .bool true, .int .i64 t.1.1, .slice A1 t.1.2.length c1] 80)
        have hrow5 := (hrow4.below ((Below.refl _ _).alloc (Nat.le_refl _) (.cells #[.int .i64 r, .int .i64 t.2.1, .bool true, .int .i64 t.1.1, .slice A1 t.1.2.length c1] 80))).more (Nat.le_of_lt (by simp : w4.heap.size < (w4.alloc (.cells #[.int .i64 r, .int .i64 t.2.1, .bool true, .int .i64 t.1.1, .slice A1 t.1.2.length c1] 80)).heap.size))
        obtain ⟨fn2, tmps2, assign2, body2, hy2, hR2⟩ := HY.out (pre ++ [(⟨skipS a r, none, 0⟩ : Pt)]) ⟨⟨r, t.2.1, true, t.1.1, t.1.2⟩, A1, c1⟩ W3 _ hJ3 ((Below.refl W3.heap.size W3).trans (hb5.mono (Below.refl W3.heap.size W3).size)) ⟨hrow5, hin⟩ hl3
        dsimp only [Pt.val] at hy2
        gi_wp2_with fail
        refine hR2.mono ?_
        rintro e W6 ⟨rfl, hJ6, hk6⟩
        have hz4 : W3.heap.size ≤ w4.heap.size := Nat.le_trans (Below.refl W3.heap.size W3).size hb4.size
        have hpart : Held W6 w4.heap.size 80 #[.int .i64 r, .int .i64 t.2.1, .bool true, .int .i64 t.1.1, .slice A1 t.1.2.length c1] := (hk6.2.2 w4.heap.size hz4 (by simp)).trans (heap_alloc_new w4 _)
        have hp1 := hpart.cell 1
        simp at hp1
        have HK6 : Hid (Below n₀ W W6 ∧ W6.heap[Bn]? = W.heap[Bn]?) := Lib.hid ⟨(HK3.out.1.trans (hb5.mono hnr)).trans hk6.1, hk6.2.1.trans ((hb5.block Bn hltc).trans HK3.out.2)⟩
        have HJ6 := Lib.hid hJ6
        clear hk6 hb5 hb4 hrow4 hrow5 hcb HR hy2 hR2 hpart hJ6
        have hcb : W6.cell? ⟨Bn, 0, none⟩ = some (.slice A xs.length c) := (World.cell?_of_block HK6.out.2).trans HBN.out
        have hn6 : n₀ ≤ W6.heap.size := Nat.le_trans hn0 HK6.out.1.size
        have HR6 := Lib.hid ((HROW.out.below HK6.out.1).more hn6)
        obtain ⟨b, hb⟩ : ∃ b : Nat, r + t.2.1 = b := ⟨_, rfl⟩
        have hbi : (r : Int) + t.2.1 = b := by omega
        have hbl : b ≤ xs.length := by omega
        have hbr : r + 9 ≤ b := by omega
        have HB := Lib.hid hb
        clear hb hin
        gi_wp2_with (refine ⟨trivial, ?_⟩; gi_at_call 135; refine (callsIn_wide.2 (NX.out _ HR6.out b hbl)).mono ?_; rintro e w7 ⟨rfl, hb7⟩)
        go_roundw
        case rel =>
          refine ⟨(pre ++ [(⟨skipS a r, none, 0⟩ : Pt)]) ++ [(⟨⟨r, t.2.1, true, t.1.1, t.1.2⟩, A1, c1⟩ : Pt)], b, W6, by simp, rfl, rfl, hbl, by simp; omega, ?_, HJ6.out, hb7, HK6.out.1.trans (hb7.mono hn6), (hb7.block Bn (Nat.lt_of_lt_of_le hlt HK6.out.1.size)).trans HK6.out.2⟩
          have e1 : frS xs r = ⟨r, t.2.1, true, t.1.1, t.1.2⟩ := by unfold frS; rw [HT.out]
          have e2 := HA.out.gap hgt hrl HNB.out HBG.out
          rw [e1, HT.out, HB.out] at e2
          change Ahead xs (List.map (fun x : Pt => x.s) _) b
          simpa using e2
        case measure => simp [intOf]; omega
      · obtain rfl : r = a := by omega
        clear hnr
        have hnn : ¬ (r : Int) < r := by omega
        gi_wp2_with fail
        refine ⟨trivial, ?_⟩
        gi_wp2_with fail
        refine ⟨fun _ h => (by cases h), ?_⟩
        have hnr : n₀ ≤ wr.heap.size := Nat.le_trans hn0 HK.out.1.size
        have hltc : Bn < wr.heap.size := Nat.lt_of_lt_of_le hlt HK.out.1.size
        gi_wp2_with fail
        refine ⟨trivial, ?_⟩
        refine (callsIn_wide.2 (FR.out _ HR.out)).mono ?_
        rintro e w4 ⟨A1, c1, rfl, hrow4, hb4⟩
        have hb5 := hb4.alloc (Nat.le_trans (Nat.le_refl _) hb4.size) (.cells #[.int .i64 r, .int .i64 t.2.1, .bool true, .int .i64 t.1.1, .slice A1 t.1.2.length c1] 80)
        have hrow5 := (hrow4.below ((Below.refl _ _).alloc (Nat.le_refl _) (.cells #[.int .i64 r, .int .i64 t.2.1, .bool true, .int .i64 t.1.1, .slice A1 t.1.2.length c1] 80))).more (Nat.le_of_lt (by simp : w4.heap.size < (w4.alloc (.cells #[.int .i64 r, .int .i64 t.2.1, .bool true, .int .i64 t.1.1, .slice A1 t.1.2.length c1] 80)).heap.size))
        obtain ⟨fn2, tmps2, assign2, body2, hy2, hR2⟩ := HY.out pre ⟨⟨r, t.2.1, true, t.1.1, t.1.2⟩, A1, c1⟩ W0 _ hJs (hk0.trans (hb5.mono hk0.size)) ⟨hrow5, hin⟩ (by omega)
        dsimp only [Pt.val] at hy2
        gi_wp2_with fail
        refine hR2.mono ?_
        rintro e W6 ⟨rfl, hJ6, hk6⟩
        have hz4 : W0.heap.size ≤ w4.heap.size := Nat.le_trans hk0.size hb4.size
        have hpart : Held W6 w4.heap.size 80 #[.int .i64 r, .int .i64 t.2.1, .bool true, .int .i64 t.1.1, .slice A1 t.1.2.length c1] := (hk6.2.2 w4.heap.size hz4 (by simp)).trans (heap_alloc_new w4 _)
        have hp1 := hpart.cell 1
        simp at hp1
        have HK6 : Hid (Below n₀ W W6 ∧ W6.heap[Bn]? = W.heap[Bn]?) := Lib.hid ⟨(HK.out.1.trans (hb5.mono hnr)).trans hk6.1, hk6.2.1.trans ((hb5.block Bn hltc).trans HK.out.2)⟩
        have HJ6 := Lib.hid hJ6
        clear hk6 hb5 hb4 hrow4 hrow5 hcb HR hy2 hR2 hpart hJ6
        have hcb : W6.cell? ⟨Bn, 0, none⟩ = some (.slice A xs.length c) := (World.cell?_of_block HK6.out.2).trans HBN.out
        have hn6 : n₀ ≤ W6.heap.size := Nat.le_trans hn0 HK6.out.1.size
        have HR6 := Lib.hid ((HROW.out.below HK6.out.1).more hn6)
        obtain ⟨b, hb⟩ : ∃ b : Nat, r + t.2.1 = b := ⟨_, rfl⟩
        have hbi : (r : Int) + t.2.1 = b := by omega
        have hbl : b ≤ xs.length := by omega
        have hbr : r + 9 ≤ b := by omega
        have HB := Lib.hid hb
        clear hb hin
        gi_wp2_with (refine ⟨trivial, ?_⟩; gi_at_call 135; refine (callsIn_wide.2 (NX.out _ HR6.out b hbl)).mono ?_; rintro e w7 ⟨rfl, hb7⟩)
        go_roundw
        case rel =>
          refine ⟨pre ++ [(⟨⟨r, t.2.1, true, t.1.1, t.1.2⟩, A1, c1⟩ : Pt)], b, W6, by simp, rfl, rfl, hbl, by simp; omega, ?_, HJ6.out, hb7, HK6.out.1.trans (hb7.mono hn6), (hb7.block Bn (Nat.lt_of_lt_of_le hlt HK6.out.1.size)).trans HK6.out.2⟩
          have e1 : frS xs r = ⟨r, t.2.1, true, t.1.1, t.1.2⟩ := by unfold frS; rw [HT.out]
          have e2 := HA.out.fr hrl HBG.out
          rw [e1, HT.out, HB.out] at e2
          change Ahead xs (List.map (fun x : Pt => x.s) _) b
          simpa using e2
        case measure => simp [intOf]; omega
/-- segs.parts: the bytes' slice is boxed; the function value has the box. -/
theorem parts_any (A : Option Addr) (n c : Nat) (w : World) :
    Calls Tryz.prog 85 #[.slice A n c] w fun e w' => e = .returned (.func (.func 134) #[] #[.pointer (some ⟨w.heap.size, 0, none⟩)]) ∧ w' = w.alloc (.cells #[.slice A n c] 23) := by
  go_enter Tryz.func85, Tryz.ntmps85
  go_wp2_with fail
  go_ret
  exact ⟨rfl, rfl⟩
/-- What may be ranged over hands on the parts. -/
theorem parts_hands (n : Nat) (hn : 1 ≤ n) (Bn n₀ : Nat) (A : Option Addr) (c : Nat) (xs : List Int) (hsm : xs.length ≤ 1000000000000) (hbx : ∀ x ∈ xs, 0 ≤ x ∧ x < 256) (w : World)
    (hBn : w.cell? ⟨Bn, 0, none⟩ = some (.slice A xs.length c)) (hlt : Bn < w.heap.size) (hn0 : n₀ ≤ w.heap.size) (hrow : Row w n₀ (.slice A xs.length c) xs) :
    Hands Fence.wide n Tryz.prog 134 #[.pointer (some ⟨Bn, 0, none⟩)] (fun x : Pt => #[x.val]) (PtOk xs) (KeepsB n₀ Bn) (fun ys => PartsS xs 0 (ys.map (·.s))) xs.length w := fun l J W hW hY h0 =>
  parts1_in n hn l Bn n₀ A c xs hsm hbx J W hY ((hW.cell (p := ⟨Bn, 0, none⟩) hlt).trans hBn) (Nat.lt_of_lt_of_le hlt hW.size) (Nat.le_trans hn0 hW.size) (hrow.below (hW.mono hn0)) h0
end Go.Proofs.YtimihhcidbeonaaGreat
