/-
  The taker of a frame's parts: a cursor that is embedded; the kind, the payload, the sum that it takes.
-/
import Derived.Test.YtnjhkjlekepjoaaFrameSmall
import Derived.Test.YtnjhkjlekepjoaaCrcRef
import Derived.Lib.SlBytesConst
import Derived.Lib.SmallJoins
import Derived.Test.YtnjhkjlekepjoaaFour
import Derived.Deep.RegionHeld3
namespace Go.Proofs.Ytnjhkjlekepjoaa
open Go.RowKit

/-- A new taker. -/
def FreshT (w : World) (xs : List Int) (e : Ending) (W' : World) : Prop :=
  ∃ g, e = .returned (.agg #[.pointer (some ⟨g, 0, none⟩)]) ∧ w.heap.size ≤ g ∧ Cur 92 W' w.heap.size g xs 0 0 ∧ Below w.heap.size w W'

theorem Cur.lower {T : TypeId} {w : World} {K K' g : Nat} {xs : List Int} {p : Nat} {e : Int} (h : Cur T w K g xs p e) (hk : K' ≤ K) : Cur T w K' g xs p e := by
  obtain ⟨A, c, h1, h2, h3⟩ := h
  exact ⟨A, c, h1, h2, fun a ha => Nat.le_trans hk (h3 a ha)⟩

theorem sizeI_most : sizeI 4096 = 4107 := by
  have h : (encI 4096).length = 2 := by rw [encI_great (by omega), encI_small (by omega)]; rfl
  rw [show (4096 : Int) = ((4096 : Nat) : Int) from rfl, sizeI_ok (by omega), h]
  rfl

set_option maxRecDepth 100000 in
set_option maxHeartbeats 1000000 in
theorem newt_any (A : Option Addr) (c : Nat) (xs : List Int) (hsm : xs.length ≤ 9223372036854775807) (w : World) (hrow : Row w w.heap.size (.slice A xs.length c) xs) :
    Calls Try.prog 30 #[.slice A xs.length c] w (FreshT w (xs.take 4103)) := by
  have HS := Lib.hid (fun W => fsize_any 4096 (by omega) (by omega) W)
  rw [sizeI_most] at HS
  obtain ⟨M, hM, hM1⟩ : ∃ M : Nat, min (xs.length : Int) 4103 = M ∧ M = min xs.length 4103 := ⟨_, by omega, rfl⟩
  have htk : xs.take 4103 = xs.take M := by
    rw [hM1]
    by_cases h : xs.length ≤ 4103
    · rw [Nat.min_eq_left h, List.take_of_length_le h, List.take_length]
    · rw [Nat.min_eq_right (by omega)]
  have hMl : M ≤ xs.length := by omega
  obtain ⟨hlc, hcm⟩ : xs.length ≤ c ∧ c ≤ 9223372036854775807 := by
    obtain ⟨_, _, hv, q1, q2, _⟩ := hrow
    injection hv with _ _ e3
    subst e3
    unfold maxLen at q2
    exact ⟨q1, by omega⟩
  have hrow2 := hrow.take hMl
  rw [htk]
  have hl2 : (xs.take M).length = M := by simp; omega
  have hcn := fun W (h : Row W W.heap.size (.slice A (xs.take M).length c) (xs.take M)) => new_any A c (xs.take M) (by omega) W h
  rw [hl2] at hrow2 hcn
  generalize xs.take M = zs at hrow2 hcn ⊢
  have i1 : (M : Int) ≤ (xs.length : Int) := by omega
  have i2 : (M : Int) ≤ (c : Int) := by omega
  have i0 : (0 : Int) ≤ (M : Int) := by omega
  have HR := Lib.hid hrow2
  have HN := Lib.hid hcn
  clear hrow hrow2 hcn htk hM1 hl2
  go_enter Try.func30, Try.ntmps30
  go_wp2_with fail
  refine (HS.out _).mono ?_
  rintro e w1 ⟨rfl, hb1⟩
  go_wp2_with fail
  have hz1 : w.heap.size + 1 ≤ w1.heap.size := by have := hb1.size; simpa using this
  have b1 : Below w.heap.size w w1 := ((Below.refl _ _).alloc (Nat.le_refl _) _).trans (hb1.mono (by simp))
  refine (HN.out w1 ((HR.out.below b1).more (by omega))).mono ?_
  rintro e w2 ⟨g, rfl, hg, hcur, hb2⟩
  have hc2 : w2.cell? ⟨w.heap.size, 0, none⟩ = some (.pointer none) := (hb2.cell (p := ⟨w.heap.size, 0, none⟩) (by simp only; omega)).trans ((hb1.cell (p := ⟨w.heap.size, 0, none⟩) (by simp)).trans (by simp [World.cell?_alloc_new]))
  have hf2 : w2.frozen? ⟨w.heap.size, 0, none⟩ = false := (hb2.frozen (p := ⟨w.heap.size, 0, none⟩) (by simp only; omega)).trans ((hb1.frozen (p := ⟨w.heap.size, 0, none⟩) (by simp)).trans (by simp [World.frozen?_alloc_new]))
  have hz2 := hb2.size
  have HC := Lib.hid hcur
  clear hb1 hcur
  go_wp2_with fail
  refine bodyPost_ret (v := .agg #[.pointer (some ⟨g, 0, none⟩)]) (by simp [results, Try.results30, go_sem, hc2]) rfl ⟨g, rfl, by omega, ?_, ?_⟩
  · exact (HC.out.grown (grown_put _ _ _ _) (by left; omega) hg).lower (by omega)
  · exact (b1.trans (hb2.mono (by omega))).setCell (p := ⟨w.heap.size, 0, none⟩) (Nat.le_refl _) _
#print axioms newt_any

/-- []byte(s): it lies in a new block. -/
theorem conv_new {P : Program} (w : World) (src dst e : TypeId) (hs : P.underlying src = some .string) (hd : P.underlying dst = some (.slice e)) (he : P.underlying e = some (.int .u8))
    (xs : List Int) (hb : ∀ x ∈ xs, 0 ≤ x ∧ x < 256) (hl : xs.length ≤ 9223372036854775807) :
    ∃ A c W', (convert src dst (.string (strOfNums xs))).run P w = .ok (.slice A xs.length c) W' ∧ Row W' W'.heap.size (.slice A xs.length c) xs ∧ Below w.heap.size w W' ∧ ∀ a, A = some a → w.heap.size ≤ a.block := by
  obtain ⟨A, c, W', h, h2, h3⟩ := conv_bytes (P := P) w src dst e hs hd he xs hb hl
  refine ⟨A, c, W', h, h2, h3, fun a ha => ?_⟩
  rw [Lib.run_convert_string_bytes (P := P) w src dst e (strOfNums xs) hs hd he] at h
  injection h with e1 _
  injection e1 with e3 _ _
  rw [ha] at e3
  injection e3 with e4
  rw [← e4]
  exact Nat.le_refl _

section
variable {K g : Nat} {xs : List Int} {p : Nat} {e : Int} {w : World}

/-- A cursor behind a box that a method lays for its receiver. -/
theorem Cur.boxed (h : Cur 92 w K g xs p e) (hK : K ≤ g) (o : Obj) : Cur 92 (w.alloc o) K g xs p e := h.below ((Below.refl _ _).alloc (Nat.le_refl _) o) hK

theorem tk_at_le (z : Int) {n p : Nat} {e : Int} {ys : List Int} (hp : p ≤ n) (hl : ys.length = n - p) : (tk z p e (getB ys)).2.1 ≤ n :=
  (tk_never (n := n) hp (fun h => by have := (getB_fits ys).1 h; omega)).2.1

set_option maxRecDepth 100000 in
set_option maxHeartbeats 1000000 in
/-- The kind that a taker takes. -/
theorem kind_any (h : Cur 92 w K g xs 0 0) (hK : K ≤ g) (hb : ∀ x ∈ xs, 0 ≤ x ∧ x < 256) :
    Calls Try.prog 31 #[.agg #[.pointer (some ⟨g, 0, none⟩)]] w fun r w' => r = .returned (.int .i64 (takeK xs).1) ∧ Cur 92 w' K g xs (takeK xs).2.1 (errK xs) ∧ w.grownBy w' (some g) := by
  have hg := h.lt
  have HC := Lib.hid h
  have HB := Lib.hid (byte_any (h.boxed hK (.cells #[.pointer (some ⟨g, 0, none⟩)] 63)) (Nat.zero_le _) hK hb)
  rw [List.drop_zero] at HB
  have hk0 : 0 ≤ (takeK xs).1 ∧ (takeK xs).1 < 256 := by
    unfold takeK
    cases xs with
    | nil => decide
    | cons x r => rw [tk_ok (by rfl)]; exact hb x (by simp)
  clear h hb
  change Hid (Calls Try.prog _ _ _ (Took u8V _ K g xs (takeK xs))) at HB
  obtain ⟨k0, k1⟩ := hk0
  unfold errK
  generalize takeK xs = t at HB k0 k1 ⊢
  obtain ⟨k, q, er⟩ := t
  simp only at k0 k1 ⊢
  by_cases hk : k = 1 ∨ k = 2
  · rw [if_pos hk]
    have HK := Lib.hid (fun W => known_yes hk W)
    clear hk
    go_enter Try.func31, Try.ntmps31
    go_wp2_with fail
    refine HB.out.mono ?_
    rintro r w1 ⟨rfl, hc1, hg1⟩
    simp only [u8V]
    have HC1 := Lib.hid hc1; clear hc1
    go_wp2_with fail
    refine (HK.out _).mono ?_
    rintro r w2 ⟨rfl, rfl⟩
    go_wp2_with fail
    go_ret
    exact ⟨rfl, HC1.out, grown_trans (grown_alloc _ _ _) hg1⟩
  · rw [if_neg hk]
    have HK := Lib.hid (fun W => known_no hk W)
    clear hk
    go_enter Try.func31, Try.ntmps31
    go_wp2_with fail
    refine HB.out.mono ?_
    rintro r w1 ⟨rfl, hc1, hg1⟩
    simp only [u8V]
    have hbox : w1.cell? ⟨w.heap.size, 0, none⟩ = some (.pointer (some ⟨g, 0, none⟩)) := (World.cell?_of_block (hg1.block w.heap.size (by simp) (fun e => by injection e with e; omega))).trans (by simp [World.cell?_alloc_new])
    have HC1 := Lib.hid hc1; clear hc1
    go_wp2_with fail
    refine (HK.out _).mono ?_
    rintro r w2 ⟨rfl, rfl⟩
    have HST := Lib.hid (stop_any 4 HC1.out)
    go_wp2_with fail
    refine HST.out.mono ?_
    rintro r w3 ⟨rfl, hc3, hg3⟩
    have HC3 := Lib.hid hc3; clear hc3
    go_wp2_with fail
    go_ret
    exact ⟨rfl, HC3.out, grown_trans (grown_trans (grown_alloc _ _ _) hg1) hg3⟩
#print axioms kind_any

set_option maxRecDepth 100000 in
set_option maxHeartbeats 1000000 in
/-- The payload that a taker takes. -/
theorem payload_any (h : Cur 92 w K g xs p e) (hp : p ≤ xs.length) (hK : K ≤ g) (hb : ∀ x ∈ xs, 0 ≤ x ∧ x < 256) (hl : xs.length ≤ 100000000000) :
    Calls Try.prog 32 #[.agg #[.pointer (some ⟨g, 0, none⟩)]] w fun r w' => ∃ A c, r = .returned (.slice A (tk [] p e (getT 4096 (xs.drop p))).1.length c) ∧ Row w' w'.heap.size (.slice A (tk [] p e (getT 4096 (xs.drop p))).1.length c) (tk [] p e (getT 4096 (xs.drop p))).1 ∧
      Cur 92 w' K g xs (tk [] p e (getT 4096 (xs.drop p))).2.1 (tk [] p e (getT 4096 (xs.drop p))).2.2 ∧ w.grownBy w' (some g) ∧ ∀ a, A = some a → w.heap.size ≤ a.block := by
  have hg := h.lt
  have HB := Lib.hid (text_any 4096 (by omega) (by omega) (h.boxed hK (.cells #[.pointer (some ⟨g, 0, none⟩)] 63)) hp hK hb)
  have hbt : (∀ x ∈ (tk [] p e (getT 4096 (xs.drop p))).1, 0 ≤ x ∧ x < 256) ∧ (tk [] p e (getT 4096 (xs.drop p))).1.length ≤ 100000000000 := by
    have hs := getT_size (most := 4096) (xs.drop p) (drop_bytes hb p)
    unfold tk
    split
    · simp
    · split
      · simp
      · exact ⟨hs.2.2, by show (getT 4096 (xs.drop p)).1.length ≤ _; have := hs.2.1; rw [List.length_drop] at this; omega⟩
  clear h hb
  generalize tk [] p e (getT 4096 (xs.drop p)) = t at HB hbt ⊢
  obtain ⟨s, q, er⟩ := t
  simp only at hbt ⊢
  obtain ⟨hbs, hls⟩ := hbt
  have HBS := Lib.hid hbs; clear hbs
  go_enter Try.func32, Try.ntmps32
  go_wp2_with fail
  refine HB.out.mono ?_
  rintro r w1 ⟨rfl, hc1, hg1⟩
  simp only [txtV]
  obtain ⟨A3, c3, w3, hcv3, hrow3, hb3, hn3⟩ := conv_new (P := Try.prog) w1 9 25 5 Try.underlying9 Try.underlying25 Try.underlying5 s HBS.out (by omega)
  have HR3 := Lib.hid hrow3
  have HN3 := Lib.hid (fun a e => Nat.le_trans (Nat.le_trans (by simp : w.heap.size ≤ (w.alloc (.cells #[.pointer (some ⟨g, 0, none⟩)] 63)).heap.size) hg1.size) (hn3 a e)); clear hn3
  have HC1 := Lib.hid hc1; clear hc1 hrow3
  go_wp2_with fail
  go_ret
  exact ⟨A3, c3, rfl, HR3.out, HC1.out.below hb3 hK, grown_trans (grown_trans (grown_alloc _ _ _) hg1) (grown_below hb3 _), HN3.out⟩
#print axioms payload_any
end

/-- Where the cells of an array of four bytes stand behind j takes. -/
def cells4 (zs : List Int) (p : Nat) (e : Int) (j : Nat) : Array Value :=
  #[.int .u8 (if 0 < j then four zs p e 0 else 0), .int .u8 (if 1 < j then four zs p e 1 else 0), .int .u8 (if 2 < j then four zs p e 2 else 0), .int .u8 (if 3 < j then four zs p e 3 else 0)]

theorem at4_le {zs : List Int} {p : Nat} {e : Int} (hp : p ≤ zs.length) : ∀ j, (at4 zs p e j).1 ≤ zs.length
  | 0 => hp
  | j + 1 => tk_at_le 0 (at4_le hp j) (by rw [List.length_drop])

set_option maxRecDepth 100000 in
set_option maxHeartbeats 1000000 in
/-- The sum that a taker takes. -/
theorem tsum_any {K g : Nat} {zs : List Int} {p : Nat} {e : Int} {w : World} (h : Cur 92 w K g zs p e) (hp : p ≤ zs.length) (hK : K ≤ g) (hb : ∀ x ∈ zs, 0 ≤ x ∧ x < 256)
    (A : Option Addr) (c : Nat) (body : List Int) (hrow : Row w K (.slice A body.length c) body) (hbb : ∀ x ∈ body, 0 ≤ x ∧ x < 256) :
    Calls Try.prog 33 #[.agg #[.pointer (some ⟨g, 0, none⟩)], .slice A body.length c] w fun r w' => r = .returned (.tuple #[]) ∧ Cur 92 w' K g zs (at4 zs p e 4).1 (errS zs p e body) ∧ w.grownBy w' (some g) := by
  have hg := h.lt
  have HC := Lib.hid h
  have HZB := Lib.hid hb
  have HBB := Lib.hid hbb
  have HROW := Lib.hid hrow
  clear h hb hbb hrow
  go_enter Try.func33, Try.ntmps33
  go_wp2_with fail
  go_loopw [6] (fun i wr => ∃ j : Nat, j ≤ 4 ∧ i = .int .i64 j ∧ Hid (Cur 92 wr K g zs (at4 zs p e j).1 (at4 zs p e j).2) ∧ Hid (Held wr w.heap.size 63 #[.pointer (some ⟨g, 0, none⟩)]) ∧ Hid (Held wr (w.heap.size + 1) 99 (cells4 zs p e j)) ∧ Hid (w.grownBy wr (some g))) (fun i _ => 4 - (intOf i).toNat)
  case atStart =>
    refine ⟨0, by omega, rfl, Lib.hid ?_, Lib.hid ?_, Lib.hid ?_, Lib.hid ?_⟩
    · exact (HC.out.boxed hK _).boxed hK _
    · exact Below.heap_alloc (w.alloc _) _ w.heap.size (by simp) |>.trans (heap_alloc_new w _)
    · have := heap_alloc_new (w.alloc (.cells #[.pointer (some ⟨g, 0, none⟩)] 63)) (.cells #[.int .u8 0, .int .u8 0, .int .u8 0, .int .u8 0] 99)
      rw [World.size_alloc] at this
      exact this
    · exact grown_trans (grown_alloc _ _ _) (grown_alloc _ _ _)
  case round =>
    obtain ⟨j, hj, rfl, HCR, HBX, HAR, HGR⟩ := hrel
    by_cases hlt : j < 4
    · have hbox := HBX.out.cell 0
      have hle := at4_le (zs := zs) (e := e) hp j
      have HBY := Lib.hid (byte_any HCR.out hle hK HZB.out)
      change Hid (Calls Try.prog _ _ _ (Took u8V _ K g zs (takeB zs (at4 zs p e j).1 (at4 zs p e j).2))) at HBY
      have hnext : at4 zs p e (j + 1) = (takeB zs (at4 zs p e j).1 (at4 zs p e j).2).2 := rfl
      have hf : four zs p e j = (takeB zs (at4 zs p e j).1 (at4 zs p e j).2).1 := rfl
      generalize takeB zs (at4 zs p e j).1 (at4 zs p e j).2 = t at HBY hnext hf
      obtain ⟨y, q2, e2⟩ := t
      simp only at hf
      have HNX := Lib.hid hnext
      have HF := Lib.hid hf
      clear hnext hf hle
      have j0 : (0 : Int) ≤ (j : Int) := by omega
      have j1 : (j : Int) < 4 := by omega
      go_wp2_with fail
      refine HBY.out.mono ?_
      rintro r w1 ⟨rfl, hc1, hg1⟩
      simp only [u8V]
      have har := HAR.out.grown hg1 (fun e => by injection e with e; omega)
      have hbx := HBX.out.grown hg1 (fun e => by injection e with e; omega)
      have hcell := har.cell j
      rw [show (cells4 zs p e j)[j]? = some ((cells4 zs p e j)[j]'(by simp [cells4]; omega)) from Array.getElem?_eq_getElem _] at hcell
      generalize (cells4 zs p e j)[j]'(by simp [cells4]; omega) = u0 at hcell
      have hfz := har.frozen j
      have hupd : (cells4 zs p e j).setIfInBounds j (.int .u8 y) = cells4 zs p e (j + 1) := by
        rw [← HF.out]
        rcases (by omega : j = 0 ∨ j = 1 ∨ j = 2 ∨ j = 3) with rfl | rfl | rfl | rfl <;> rfl
      have hput := har.put j (.int .u8 y)
      rw [hupd] at hput
      have HPUT := Lib.hid hput
      have HBX1 := Lib.hid hbx
      have HC1 := Lib.hid hc1
      have HG1 := Lib.hid (grown_trans HGR.out hg1)
      clear hput hbx hc1 hg1 har hupd
      go_wp2_with fail
      go_roundw
      case rel =>
        refine ⟨j + 1, by omega, by go_num, Lib.hid ?_, Lib.hid ?_, HPUT, Lib.hid ?_⟩
        · rw [HNX.out]
          exact HC1.out.grown (grown_put _ _ _ _) (by right; omega) hK
        · exact HBX1.out.grown (grown_put _ _ _ _) (fun e => by injection e with e; omega)
        · exact ⟨HG1.out.os, HG1.out.tape, HG1.out.output, by simpa using HG1.out.size, fun k hk hn => (Below.heap_setCell w1 ⟨w.heap.size + 1, j, none⟩ _ k (by simp only; omega)).trans (HG1.out.block k hk hn)⟩
      case measure => simp [intOf]; omega
    · obtain rfl : j = 4 := by omega
      have hrw : Row wr K (.slice A body.length c) body := HROW.out.keep (fun q hq => World.cell?_of_block (HGR.out.block q.block (by omega) (fun e => by injection e with e; omega)))
      have hs1 := fun W v h => sum_any v [body] W h (by intro l hl; simp at hl; subst hl; exact HBB.out)
      rw [show [body].flatten = body by simp] at hs1
      have hsl := sumX_lt HBB.out
      have HS1 := Lib.hid hs1
      have HF4 := Lib.hid (fun W => four_any (sumX body) hsl W)
      simp only [le4V] at HF4
      have hc0 := HAR.out.cell 0
      have hc1 := HAR.out.cell 1
      have hc2 := HAR.out.cell 2
      have hc3 := HAR.out.cell 3
      simp [cells4] at hc0 hc1 hc2 hc3
      have hlt2 := HBX.out.lt
      have hlt3 := HAR.out.lt
      have hgl := HGR.out.size
      have HRW := Lib.hid hrw
      clear hrw hs1
      have hne := fun W => run_neq_four W (four zs p e 0) (four zs p e 1) (four zs p e 2) (four zs p e 3) ((sumX body : Int) % 256) ((sumX body : Int) / 256 % 256) ((sumX body : Int) / 65536 % 256) ((sumX body : Int) / 16777216)
      by_cases hq : fourL zs p e = le4 (sumX body)
      · have hbq : (four zs p e 0 == (sumX body : Int) % 256 && (four zs p e 1 == (sumX body : Int) / 256 % 256 && (four zs p e 2 == (sumX body : Int) / 65536 % 256 && four zs p e 3 == (sumX body : Int) / 16777216))) = true := by
          simp only [fourL, le4, List.cons.injEq, and_true] at hq
          simp only [Bool.and_eq_true, beq_iff_eq]
          exact hq
        have hfin : errS zs p e body = (at4 zs p e 4).2 := by unfold errS; rw [if_pos hq]
        simp only [hbq, Bool.not_true] at hne
        have HFIN := Lib.hid hfin
        clear hfin hbq hq
        generalize four zs p e 0 = f0 at hc0 hne
        generalize four zs p e 1 = f1 at hc1 hne
        generalize four zs p e 2 = f2 at hc2 hne
        generalize four zs p e 3 = f3 at hc3 hne
        generalize sumX body = sb at hne HS1 HF4 hsl
        go_wp2_with fail
        go_region_held3 (fun W => W.cell? ⟨w.heap.size + 1, 0, none⟩ = some (.int .u8 f0) ∧ W.cell? ⟨w.heap.size + 1, 1, none⟩ = some (.int .u8 f1) ∧ W.cell? ⟨w.heap.size + 1, 2, none⟩ = some (.int .u8 f2) ∧ W.cell? ⟨w.heap.size + 1, 3, none⟩ = some (.int .u8 f3))
          (first | go_keep | exact ⟨(b6.cell (p := ⟨w.heap.size + 1, 0, none⟩) hlt3).trans hc0, (b6.cell (p := ⟨w.heap.size + 1, 1, none⟩) hlt3).trans hc1, (b6.cell (p := ⟨w.heap.size + 1, 2, none⟩) hlt3).trans hc2, (b6.cell (p := ⟨w.heap.size + 1, 3, none⟩) hlt3).trans hc3⟩)
          (first
            | (go_at_call 59; (with_reducible refine (HS1.out _ _ (Parts.one (by simp) (by simp [World.cell?_alloc_new]) ((HRW.out.below ((Below.refl _ _).alloc (by omega) _).drew).more (by simp; omega)))).mono ?_); rintro r w5 ⟨rfl, rfl⟩)
            | (go_at_call 58; (with_reducible refine (HF4.out _).mono ?_); rintro r w6 ⟨rfl, hb6⟩; have b6 : Below wr.heap.size wr w6 := ((Below.refl _ _).alloc (Nat.le_refl _) _).drew.trans (hb6.mono (by simp))))
        go_wp2_with fail
        go_end0
        exact ⟨rfl, by rw [HFIN.out]; exact HCR.out.below b6 hK, grown_trans HGR.out (grown_below b6 _)⟩
      · have hbq : (four zs p e 0 == (sumX body : Int) % 256 && (four zs p e 1 == (sumX body : Int) / 256 % 256 && (four zs p e 2 == (sumX body : Int) / 65536 % 256 && four zs p e 3 == (sumX body : Int) / 16777216))) = false := by
          rw [Bool.eq_false_iff]
          intro hh
          simp only [Bool.and_eq_true, beq_iff_eq] at hh
          exact hq (by simp only [fourL, le4, List.cons.injEq, and_true]; exact hh)
        have hfin : errS zs p e body = stopI (at4 zs p e 4).2 5 := by unfold errS; rw [if_neg hq]
        simp only [hbq, Bool.not_false] at hne
        have HFIN := Lib.hid hfin
        clear hfin hbq hq
        generalize four zs p e 0 = f0 at hc0 hne
        generalize four zs p e 1 = f1 at hc1 hne
        generalize four zs p e 2 = f2 at hc2 hne
        generalize four zs p e 3 = f3 at hc3 hne
        generalize sumX body = sb at hne HS1 HF4 hsl
        go_wp2_with fail
        go_region_held3 (fun W => W.cell? ⟨w.heap.size + 1, 0, none⟩ = some (.int .u8 f0) ∧ W.cell? ⟨w.heap.size + 1, 1, none⟩ = some (.int .u8 f1) ∧ W.cell? ⟨w.heap.size + 1, 2, none⟩ = some (.int .u8 f2) ∧ W.cell? ⟨w.heap.size + 1, 3, none⟩ = some (.int .u8 f3))
          (first | go_keep | exact ⟨(b6.cell (p := ⟨w.heap.size + 1, 0, none⟩) hlt3).trans hc0, (b6.cell (p := ⟨w.heap.size + 1, 1, none⟩) hlt3).trans hc1, (b6.cell (p := ⟨w.heap.size + 1, 2, none⟩) hlt3).trans hc2, (b6.cell (p := ⟨w.heap.size + 1, 3, none⟩) hlt3).trans hc3⟩)
          (first
            | (go_at_call 59; (with_reducible refine (HS1.out _ _ (Parts.one (by simp) (by simp [World.cell?_alloc_new]) ((HRW.out.below ((Below.refl _ _).alloc (by omega) _).drew).more (by simp; omega)))).mono ?_); rintro r w5 ⟨rfl, rfl⟩)
            | (go_at_call 58; (with_reducible refine (HF4.out _).mono ?_); rintro r w6 ⟨rfl, hb6⟩; have b6 : Below wr.heap.size wr w6 := ((Below.refl _ _).alloc (Nat.le_refl _) _).drew.trans (hb6.mono (by simp))))
        have hbox : w6.cell? ⟨w.heap.size, 0, none⟩ = some (.pointer (some ⟨g, 0, none⟩)) := (b6.cell (p := ⟨w.heap.size, 0, none⟩) hlt2).trans (HBX.out.cell 0)
        have HST := Lib.hid (stop_any 5 (HCR.out.below b6 hK))
        have HB6 := Lib.hid b6
        clear b6 hb6
        go_wp2_with fail
        refine HST.out.mono ?_
        rintro r w7 ⟨rfl, hc7, hg7⟩
        have HC7 := Lib.hid hc7; clear hc7
        go_wp2_with fail
        go_end0
        exact ⟨rfl, by rw [HFIN.out]; exact HC7.out, grown_trans HGR.out (grown_trans (grown_below HB6.out _) hg7)⟩
#print axioms tsum_any
end Go.Proofs.Ytnjhkjlekepjoaa
