/-
  What the theorem of StreamChunks rests on, part 14 of 15.
-/
import Derived.Lib.MinMax
import Derived.LoopTactic
import Derived.Deep.LoopGhost
import Derived.Deep.QuietTactic
import Derived.BigQuiet
import Derived.Lib.SliceRun
import Derived.Test.YtnlfcmbpocdpjaaGreatStreamChunksZ13
set_option maxRecDepth 100000
set_option maxHeartbeats 16000000
namespace Go.Proofs.YtnlfcmbpocdpjaaGreat
open Lib (hid)
open Go.RowKit Go.ChangeShapes Go.WideShapes
set_option linter.unusedVariables false
structure Cu where
 A : Option Addr
 c : Nat
 b : List Int
abbrev Cu.val (x : Cu) : Value := .slice x.A x.b.length x.c
def cuVs (l : List Cu) : List Value := l.map (·.val)
theorem cuVs_snoc (l : List Cu) (x : Cu) : cuVs l ++ [x.val] = cuVs (l ++ [x]) := by unfold cuVs; rw [List.map_append]; rfl
theorem cuVs_at {l : List Cu} {i : Nat} {x : Cu} (h : l[i]? = some x) : (cuVs l)[i]? = some x.val := by unfold cuVs; rw [List.getElem?_map, h]; rfl
def OwnC (w : World) (n : Nat) (v : Value) (cs : List Cu) : Prop := w.ownsRow n 22 1 v cs.length (cuVs cs) ∧ ∀ x ∈ cs, w.ownsRow n 5 1 x.val x.b.length (x.b.map (.int .u8))
theorem Tryz.infoRowB : (Tryz.prog.info? 22).map (fun i => (i.zero, i.size, i.bytes)) = some (some (.slice none 0 0), 1, 24) := by kernel_rfl
section
variable {w w' : World} {n m : Nat} {v : Value} {cs : List Cu}
theorem OwnC.nil (w : World) (n : Nat) : OwnC w n (.slice none 0 0) [] := ⟨World.ownsRow_nil _ _ _ _, by simp⟩
theorem OwnC.below (h : OwnC w n v cs) (hb : Below w.heap.size w w') : OwnC w' n v cs := ⟨own_below h.1 hb, fun x hx => own_below (h.2 x hx) hb⟩
theorem OwnC.next {x : Cu} {v' : Value} (h : OwnC w n v cs) (hx : w.ownsRow n 5 1 x.val x.b.length (x.b.map (.int .u8))) (ho : w'.ownsRow n 22 1 v' (cs ++ [x]).length (cuVs (cs ++ [x]))) (hg : w.grownBy w' v.ownBlock) : OwnC w' n v' (cs ++ [x]) := by
 have hn := NotT.of_own (e := 5) h.1 (by decide)
 refine ⟨ho, fun y hy => ?_⟩
 rcases List.mem_append.1 hy with hy | hy
 ·exact own_nott (h.2 y hy) hn hg
 ·rw [List.mem_singleton.1 hy]
  exact own_nott hx hn hg
end
theorem bclone19_any (w : World) (C : Option Addr) (cc : Nat) (bs : List Int) (hrow : Row w w.heap.size (.slice C bs.length cc) bs) (hl : bs.length ≤ 1000000000) :
  Calls Tryz.prog 47 #[.slice C bs.length cc] w fun e w' => ∃ C2 c2, e = .returned (.slice C2 bs.length c2) ∧ w'.ownsRow w.heap.size 5 1 (.slice C2 bs.length c2) bs.length (bs.map (.int .u8)) ∧ Below w.heap.size w w' := by
 obtain ⟨i0, hi, hz0, hz1, hz2⟩ := info_parts Tryz.infoU8
 rcases C with _ | ad
 ·have h0 : bs = [] ∧ cc = 0 := by
   obtain ⟨_, _, hv, q1, q2, q3, q4⟩ := hrow
   injection hv with e1 _ e3
   subst e1 e3
   have := q3 rfl
   exact ⟨List.eq_nil_of_length_eq_zero (by omega), this⟩
  obtain ⟨rfl, rfl⟩ := h0
  clear hrow
  have heq : ∀ W : World, (binOp .eql 22 (.slice none 0 0) (.slice none 0 0)).run Tryz.prog W = .ok (.bool true) W := fun W => Lib.run_eql_slice_nil W 22 5 none 0 0 0 0 Tryz.underlying22
  go_enter Tryz.func47, Tryz.ntmps47
  go_wp2_with fail
  go_ret
  exact ⟨none, 0, rfl, World.ownsRow_nil _ _ _ _, Below.refl _ _⟩
 ·have HR := hid hrow; clear hrow
  have heq : ∀ W : World, (binOp .eql 22 (.slice (some ad) bs.length cc) (.slice none 0 0)).run Tryz.prog W = .ok (.bool false) W := fun W => Lib.run_eql_slice_nil W 22 5 (some ad) bs.length cc 0 0 Tryz.underlying22
  go_enter Tryz.func47, Tryz.ntmps47
  go_wp2_with (at_builtin; refine wpList_append_row _ rfl _ _ 22 rfl w.heap.size 5 i0 (.int .u8 0) Tryz.underlying22 hi hz0 hz1 hz2 rfl (.slice (some ⟨w.heap.size, 0, none⟩) 0 0) 0 [] (by rfl) (own_none1 _ _ _ (Nat.le_refl _)) w.heap.size _ bs rfl (HR.out.below ((Below.refl _ _).alloc (Nat.le_refl _) _)) (by omega) (by simp) ?_; intro v2 w2 hown2 hg2 hn2)
  go_ret
  rw [Nat.zero_add, List.nil_append] at hown2
  obtain ⟨A2, c2, rfl⟩ := own_form hown2
  exact ⟨A2, c2, rfl, hown2, ((Below.refl _ _).alloc (Nat.le_refl _) _).grown hg2 (by simp) (fun k hk => by simp [Value.ownBlock] at hk; omega)⟩
theorem le_take {zs : List Int} {k : Nat} {m z : Int} (h : m ∈ zs.take k ∧ ∀ y ∈ zs.take k, m ≤ y) (hz : zs[k]? = some z) : min m z ∈ zs.take (k + 1) ∧ ∀ y ∈ zs.take (k + 1), min m z ≤ y := by
 rw [List.take_add_one, hz]
 refine ⟨?_, fun y hy => ?_⟩
 ·rcases Int.le_total m z with h1 | h1
  ·rw [Int.min_eq_left h1]; exact List.mem_append_left _ h.1
  ·rw [Int.min_eq_right h1]; exact List.mem_append_right _ (by simp)
 ·rcases List.mem_append.1 hy with hy | hy
  ·exact Int.le_trans (Int.min_le_left _ _) (h.2 y hy)
  ·have : y = z := by simpa using hy
   rw [this]
   exact Int.min_le_right _ _
theorem smin_any (w : World) (A : Option Addr) (c : Nat) (zs : List Int) (hne : 0 < zs.length) (hr : IRow w w.heap.size (.slice A zs.length c) zs) :
  Calls Tryz.prog 46 #[.slice A zs.length c] w fun e w' => ∃ m, e = .returned (.int .i64 m) ∧ m ∈ zs ∧ (∀ z ∈ zs, m ≤ z) ∧ w' = w := by
 obtain ⟨-, hc1, hc2⟩ := VRow.length hr
 rw [List.length_map] at hc1
 obtain ⟨b, o, rfl, hbl, hc⟩ : ∃ b o, A = some ⟨b, o, none⟩ ∧ b < w.heap.size ∧ ∀ i z, zs[i]? = some z → w.cell? ⟨b, o + i, none⟩ = some (.int .i64 z) := by
  obtain ⟨A', c', hv, _, _, _, h4⟩ := hr
  injection hv with e1 _ _
  obtain ⟨b, o, e, hb, hc⟩ := h4 (by rw [List.length_map]; omega)
  exact ⟨b, o, e1.trans e, hb, fun i z hz => hc i _ (by rw [List.getElem?_map, hz]; rfl)⟩
 obtain ⟨z0, hz0⟩ : ∃ z, zs[0]? = some z := ⟨_, List.getElem?_eq_getElem hne⟩
 have x0 := hc 0 z0 hz0
 rw [Nat.add_zero] at x0
 have HC := hid hc
 have HST := hid (show z0 ∈ zs.take 1 ∧ ∀ y ∈ zs.take 1, z0 ≤ y from by
  have e : zs.take 1 = [z0] := by rw [show (1 : Nat) = 0 + 1 from rfl, List.take_add_one, hz0]; rfl
  rw [e]
  exact ⟨by simp, fun y hy => by rw [List.mem_singleton.1 hy]; exact Int.le_refl _⟩)
 have HAT := hid (fun k (hk : k < zs.length) => (⟨_, List.getElem?_eq_getElem hk⟩ : ∃ z, zs[k]? = some z))
 have HTK := hid (show zs.take zs.length = zs from List.take_length)
 obtain ⟨n, hn⟩ : ∃ n, zs.length = n := ⟨_, rfl⟩
 rw [hn] at hne hc1 HAT HTK ⊢
 clear hr hc hz0 hn
 go_enter Tryz.func46, Tryz.ntmps46
 go_wp2_with fail
 go_loopg [3, 4] (n - 1) (fun gk mm ii wr => ∃ (k : Nat) (m : Int), mm = .int .i64 m ∧ ii = .int .i64 k ∧ 1 ≤ k ∧ k ≤ n ∧ Hid (n - k = gk) ∧ Hid (m ∈ zs.take k ∧ ∀ y ∈ zs.take k, m ≤ y) ∧ wr = w)
 case atStart => exact ⟨1, z0, rfl, rfl, Nat.le_refl _, hne, hid rfl, HST, rfl⟩
 case round =>
  obtain ⟨k, m, rfl, rfl, hk1, hk2, HGK, HM, rfl⟩ := hrel
  by_cases hlt : k < n
  ·obtain ⟨z, hz⟩ := HAT.out k hlt
   have xk := HC.out k z hz
   have HM2 := hid (le_take HM.out hz)
   clear hz x0
   obtain ⟨q, hq⟩ : ∃ q, min m z = q := ⟨_, rfl⟩
   rw [hq] at HM2
   go_wp2_with fail
   go_roundg (n - (k + 1))
   case measure => have := HGK.out; omega
   case rel => exact ⟨k + 1, q, by first | rfl | rw [hq], by go_num, by omega, hlt, hid rfl, HM2, rfl⟩
  ·obtain rfl : k = n := by omega
   have hm := HM.out
   rw [HTK.out] at hm
   have HMM := hid hm
   clear hm
   go_wp2_with fail
   go_ret
   exact ⟨m, rfl, HMM.out.1, HMM.out.2, rfl⟩
theorem szZ_get {zs : List Int} {k : Nat} (h : GoodZ zs) : zs[k % zs.length]? = some ((szZ zs k : Nat) : Int) := by
 have hl : 0 < zs.length := List.length_pos_iff.2 h.1
 have hi : k % zs.length < zs.length := Nat.mod_lt _ hl
 have h2 := h.2 _ (List.getElem_mem hi)
 unfold szZ
 rw [List.getD_eq_getElem?_getD, List.getElem?_eq_getElem hi, Option.getD_some]
 congr 1
 omega
theorem cutZ_len (zs xs : List Int) (k : Nat) : (cutZ zs xs k).length = min (szZ zs k) (restZ zs xs k).length := List.length_take
theorem cutZ_take (zs xs : List Int) (k : Nat) : (restZ zs xs k).take (min (szZ zs k) (restZ zs xs k).length) = cutZ zs xs k := by
 unfold cutZ
 rcases Nat.le_total (szZ zs k) (restZ zs xs k).length with h | h
 ·rw [Nat.min_eq_left h]
 ·rw [Nat.min_eq_right h, List.take_of_length_le (Nat.le_refl _), List.take_of_length_le h]
theorem restZ_drop (zs xs : List Int) (k : Nat) : (restZ zs xs k).drop (min (szZ zs k) (restZ zs xs k).length) = restZ zs xs (k + 1) := by
 show _ = (restZ zs xs k).drop (szZ zs k)
 rcases Nat.le_total (szZ zs k) (restZ zs xs k).length with h | h
 ·rw [Nat.min_eq_left h]
 ·rw [Nat.min_eq_right h, List.drop_of_length_le (Nat.le_refl _), List.drop_of_length_le h]
theorem rem_next (k n : Nat) (hn : 0 < n) : (((k % n : Nat) : Int) + 1).tmod (n : Int) = (((k + 1) % n : Nat) : Int) := by
 rw [Int.tmod_eq_emod_of_nonneg (by omega), show ((k % n : Nat) : Int) + 1 = ((k % n + 1 : Nat) : Int) by omega, ← Int.natCast_emod, Nat.mod_add_mod]
def UseZ (zs xs ze : List Int) : Prop := (GoodZ zs ∧ ze = zs) ∨ (¬ GoodZ zs ∧ ze = [(xs.length : Int)])
theorem UseZ.pos {zs xs ze : List Int} (h : UseZ zs xs ze) : 0 < ze.length := by
 rcases h with ⟨h, rfl⟩ | ⟨_, rfl⟩
 ·exact List.length_pos_iff.2 h.1
 ·exact Nat.one_pos
theorem UseZ.good {zs xs ze : List Int} (h : UseZ zs xs ze) (hx : xs ≠ []) : GoodZ ze := by
 rcases h with ⟨h, rfl⟩ | ⟨_, rfl⟩
 ·exact h
 ·refine ⟨by simp, fun z hz => ?_⟩
  rw [List.mem_singleton.1 hz]
  have := List.length_pos_iff.2 hx
  omega
theorem one_done {xs : List Int} (hx : xs ≠ []) : DoneZ [(xs.length : Int)] xs 1 ∧ chZ [(xs.length : Int)] xs 1 = [xs] := by
 have hs : szZ [(xs.length : Int)] 0 = xs.length := by simp [szZ]
 refine ⟨⟨?_, fun j hj => ?_⟩, ?_⟩
 ·show xs.drop (szZ _ 0) = []
  rw [hs, List.drop_length]
 ·obtain rfl : j = 0 := by omega
  exact hx
 ·show [xs.take (szZ _ 0)] = [xs]
  rw [hs, List.take_length]
theorem UseZ.chunks {zs xs ze : List Int} {k : Nat} (h : UseZ zs xs ze) (hd : DoneZ ze xs k) : ChunksZ zs xs (chZ ze xs k) := by
 rcases h with ⟨h, rfl⟩ | ⟨h, rfl⟩
 ·exact .inr ⟨.inl h, k, hd, rfl⟩
 ·by_cases hx : xs = []
  ·subst hx
   obtain rfl := hd.unique (DoneZ.nil _)
   exact .inr ⟨.inr rfl, 0, DoneZ.nil _, rfl⟩
  ·obtain ⟨h1, h2⟩ := one_done hx
   obtain rfl := hd.unique h1
   exact .inl ⟨h, hx, h2⟩
theorem restZ_ne {ze xs : List Int} : ∀ {k : Nat}, restZ ze xs k ≠ [] → xs ≠ []
 | 0, h => h
 | k + 1, h => restZ_ne (k := k) (fun e => h (by show (restZ ze xs k).drop _ = []; rw [e, List.drop_nil]))
theorem restZ_le (ze xs : List Int) : ∀ k : Nat, (restZ ze xs k).length ≤ xs.length
 | 0 => Nat.le_refl _
 | k + 1 => by
  have := restZ_le ze xs k
  show ((restZ ze xs k).drop _).length ≤ _
  rw [List.length_drop]
  omega
def CkLoop (w : World) (N : Nat) (ze xs : List Int) (gk : Nat) (bb cc ii : Value) (wr : World) : Prop :=
 ∃ (k : Nat) (Ab : Option Addr) (cb : Nat) (Ac : Option Addr) (ccp : Nat) (cs : List Cu), bb = .slice Ab (restZ ze xs k).length cb ∧ cc = .slice Ac cs.length ccp ∧ ii = .int .i64 ((k % ze.length : Nat) : Int) ∧
  Hid ((restZ ze xs k).length = gk) ∧ Hid (∀ j, j < k → restZ ze xs j ≠ []) ∧ Hid (cs.map (·.b) = chZ ze xs k) ∧ Hid (OwnC wr N (.slice Ac cs.length ccp) cs) ∧ Hid (Row wr N (.slice Ab (restZ ze xs k).length cb) (restZ ze xs k)) ∧ Hid (Below N w wr)
theorem CkLoop.next {w w0 W wr w6 : World} {N k cb ccp c6 n6 C2c : Nat} {ze xs : List Int} {Ab Ab' Ac A6 C2 : Option Addr} {cs : List Cu} {gk : Nat}
  (hne : ∀ j, j < k → restZ ze xs j ≠ []) (hr : restZ ze xs k ≠ []) (hcs : cs.map (·.b) = chZ ze xs k) (hoc : OwnC wr N (.slice Ac cs.length ccp) cs) (hrow : Row wr N (.slice Ab (restZ ze xs k).length cb) (restZ ze xs k)) (hb : Below N w wr) (hN : N ≤ wr.heap.size)
  (hcl : W.ownsRow wr.heap.size 5 1 (.slice C2 (cutZ ze xs k).length C2c) (cutZ ze xs k).length ((cutZ ze xs k).map (.int .u8))) (hbW : Below wr.heap.size wr W) (hW0 : Below W.heap.size W w0)
  (h6 : w6.ownsRow N 22 1 (.slice A6 n6 c6) n6 (cuVs (cs ++ [⟨C2, C2c, cutZ ze xs k⟩]))) (hn6 : cs.length + 1 = n6) (hg6 : w0.grownBy w6 (Value.slice Ac cs.length ccp).ownBlock)
  (hA : cb = min (szZ ze k) (restZ ze xs k).length ∨ Ab' = Ab.map (fun x => x.add (min (szZ ze k) (restZ ze xs k).length))) (hgk : (restZ ze xs (k + 1)).length = gk) {n' c' : Nat} (hn' : n' = (restZ ze xs k).length - min (szZ ze k) (restZ ze xs k).length) (hc' : c' = cb - min (szZ ze k) (restZ ze xs k).length) :
  CkLoop w N ze xs gk (.slice Ab' n' c') (.slice A6 n6 c6) (.int .i64 (((k + 1) % ze.length : Nat) : Int)) w6 := by
 subst hn' hc'
 have hl : (cs ++ [(⟨C2, C2c, cutZ ze xs k⟩ : Cu)]).length = n6 := by simp [hn6]
 have hrl : (restZ ze xs (k + 1)).length = (restZ ze xs k).length - min (szZ ze k) (restZ ze xs k).length := by rw [← restZ_drop, List.length_drop]
 have hb0 : Below wr.heap.size wr w0 := hbW.trans (hW0.mono hbW.size)
 have hown0 : OwnC w0 N (.slice Ac cs.length ccp) cs := hoc.below hb0
 have hlow : Below N w0 w6 := (Below.refl N w0).grown hg6 (Nat.le_trans hN hb0.size) (fun j e => (World.ownsRow.lt hown0.1 j e).1)
 refine ⟨k + 1, Ab', cb - min (szZ ze k) (restZ ze xs k).length, A6, c6, cs ++ [⟨C2, C2c, cutZ ze xs k⟩], by rw [hrl], by rw [hl], rfl, hid hgk, hid (fun j hj => ?_), hid ?_, hid ?_, hid ?_, hid ((hb.trans (hb0.mono hN)).trans hlow)⟩
 ·rcases Nat.lt_succ_iff_lt_or_eq.1 hj with h | rfl
  ·exact hne j h
  ·exact hr
 ·rw [List.map_append, hcs, chZ_succ]; rfl
 ·rw [hl]
  exact hown0.next (x := ⟨C2, C2c, cutZ ze xs k⟩) (own_base (own_below hcl hW0) hN) (by rw [hl]; exact h6) hg6
 ·have h := (hrow.below (hb0.mono hN)).below hlow
  have h2 := h.drop (k := min (szZ ze k) (restZ ze xs k).length) (Nat.min_le_right _ _)
  rw [restZ_drop] at h2
  rw [hrl]
  by_cases hc : cb = min (szZ ze k) (restZ ze xs k).length
  ·have hz : restZ ze xs (k + 1) = [] := by
    obtain ⟨_, _, hv, q1, _, _, _⟩ := hrow
    injection hv with _ _ e3
    refine List.eq_nil_of_length_eq_zero ?_
    have := Nat.min_le_right (szZ ze k) (restZ ze xs k).length
    omega
   rw [hz]
   have e0 : (restZ ze xs k).length - min (szZ ze k) (restZ ze xs k).length = 0 := by rw [← hrl, hz]; rfl
   rw [e0, show cb - min (szZ ze k) (restZ ze xs k).length = 0 by omega]
   exact ⟨Ab', 0, rfl, Nat.le_refl _, Nat.zero_le _, fun _ => rfl, fun h => absurd h (Nat.lt_irrefl _)⟩
  ·rw [if_neg hc, hrl] at h2
   rcases hA with hA | rfl
   ·exact absurd hA hc
   ·exact h2
theorem OwnC.base {w : World} {n m : Nat} {v : Value} {cs : List Cu} (h : OwnC w n v cs) (hm : m ≤ n) : OwnC w m v cs := ⟨own_base h.1 hm, fun x hx => own_base (h.2 x hx) hm⟩
def SChunked (w : World) (zs xs : List Int) (e : Ending) (w' : World) : Prop :=
 ∃ K k cs, e = .returned (.slice K (cs : List Cu).length k) ∧ ChunksZ zs xs (cs.map (·.b)) ∧ OwnC w' w.heap.size (.slice K cs.length k) cs ∧ Below w.heap.size w w'
theorem one_ints {w u : World} (m : Int) (hu : w.alloc (.cells #[.int .i64 m] 3) = u) : ∃ Ae ne ce, Value.slice (some ⟨w.heap.size, 0, none⟩) 1 1 = .slice Ae ne ce ∧ ne = ([m] : List Int).length ∧ IRow u u.heap.size (.slice Ae ne ce) [m] := by
 refine ⟨_, _, _, rfl, rfl, _, _, rfl, Nat.le_refl _, by unfold maxLen; simp, fun h => (by cases h), fun _ => ⟨_, 0, rfl, by rw [← hu, World.size_alloc]; omega, fun i z hz => ?_⟩⟩
 have hh : Held u w.heap.size 3 #[.int .i64 m] := by rw [← hu]; exact heap_alloc_new w _
 have hi : i = 0 := by have := (List.getElem?_eq_some_iff.1 hz).1; simpa using this
 subst hi
 have : z = .int .i64 m := by simpa using hz.symm
 rw [this]
 exact hh.cell 0
theorem schunks_any (w : World) (A : Option Addr) (c : Nat) (xs : List Int) (hl : xs.length ≤ 1000000000) (hrow : Row w w.heap.size (.slice A xs.length c) xs) (Az : Option Addr) (cz : Nat) (zs : List Int) (hz : IRow w w.heap.size (.slice Az zs.length cz) zs) :
  Calls Tryz.prog 20 #[.slice A xs.length c, .slice Az zs.length cz] w (SChunked w zs xs) := by
 obtain ⟨i1, hi1, hy0, hy1, hy2⟩ := info_parts Tryz.infoRowB
 obtain ⟨-, zc1, zc2⟩ := VRow.length hz
 rw [List.length_map] at zc1
 unfold SChunked
 rcases (show zs.length = 0 ∨ (0 < zs.length ∧ ¬ GoodZ zs) ∨ GoodZ zs from by
  by_cases h : GoodZ zs
  ·exact .inr (.inr h)
  ·rcases Nat.eq_zero_or_pos zs.length with h0 | h0
   ·exact .inl h0
   ·exact .inr (.inl ⟨h0, h⟩)) with h0 | ⟨h0, hg⟩ | hg
 case' inl =>
  obtain ⟨u, hu⟩ : ∃ u, w.alloc (.cells #[.int .i64 (xs.length : Int)] 3) = u := ⟨_, rfl⟩
  obtain ⟨Ae, ne, ce, hV, hne, hI⟩ := one_ints (xs.length : Int) hu
  obtain ⟨ze, hze⟩ : ∃ ze, [(xs.length : Int)] = ze := ⟨_, rfl⟩
  have bu : Below w.heap.size w u := by rw [← hu]; exact (Below.refl _ _).alloc (Nat.le_refl _) _
  have HUZ := hid (show UseZ zs xs ze from .inr ⟨fun h => h.1 (List.eq_nil_of_length_eq_zero h0), hze.symm⟩)
  rw [hze] at hne hI
  have HNE := hid hne
  have HIZ := hid hI
  have HRW := hid ((hrow.below bu).more bu.size)
  have HBS := hid bu
  have HV := hid hV
  rw [h0]
  clear hz hrow bu hI hne hze hV zc1
  go_enter Tryz.func20, Tryz.ntmps20
  go_wp2_with fail
  rw [HV.out]
 case' inr.inl =>
  obtain ⟨u, hu⟩ : ∃ u, w.alloc (.cells #[.int .i64 (xs.length : Int)] 3) = u := ⟨_, rfl⟩
  obtain ⟨Ae, ne, ce, hV, hne, hI⟩ := one_ints (xs.length : Int) hu
  obtain ⟨ze, hze⟩ : ∃ ze, [(xs.length : Int)] = ze := ⟨_, rfl⟩
  have bu : Below w.heap.size w u := by rw [← hu]; exact (Below.refl _ _).alloc (Nat.le_refl _) _
  have HUZ := hid (show UseZ zs xs ze from .inr ⟨hg, hze.symm⟩)
  rw [hze] at hne hI
  have HNE := hid hne
  have HIZ := hid hI
  have HRW := hid ((hrow.below bu).more bu.size)
  have HBS := hid bu
  have HV := hid hV
  have HMN := hid (smin_any w Az cz zs h0 hz)
  have HGZ := hid hg
  obtain ⟨nz, hnz⟩ : ∃ nz, zs.length = nz := ⟨_, rfl⟩
  rw [hnz] at h0 HMN zc1 ⊢
  have hk0 : ¬ (nz : Int) = 0 := by omega
  have hk1 : ((nz : Int) == 0) = false := beq_false_of_ne hk0
  clear hz hrow bu hI hne hze hV hg hnz
  go_enter Tryz.func20, Tryz.ntmps20
  go_wp2_with fail
  refine HMN.out.mono ?_
  rintro e w2 ⟨m, rfl, hm1, hm2, hw⟩
  obtain rfl : w = w2 := hw.symm
  have hm : m < 1 := by
   by_cases h : m < 1
   ·exact h
   ·exact absurd ⟨List.ne_nil_of_mem hm1, fun z hz => by have := hm2 z hz; omega⟩ HGZ.out
  clear hm1 hm2
  go_wp2_with fail
  rw [HV.out]
 case' inr.inr =>
  obtain ⟨u, hu⟩ : ∃ u, u = w := ⟨_, rfl⟩
  subst hu
  obtain ⟨ze, hze⟩ : ∃ ze, ze = zs := ⟨_, rfl⟩
  obtain ⟨Ae, ne, ce, hV, hne, hI⟩ : ∃ Ae ne ce, Value.slice Az zs.length cz = .slice Ae ne ce ∧ ne = ze.length ∧ IRow u u.heap.size (.slice Ae ne ce) ze := ⟨_, _, _, rfl, by rw [hze], by rw [hze]; exact hz⟩
  have h0 : 0 < zs.length := List.length_pos_iff.2 hg.1
  have HUZ := hid (show UseZ zs xs ze from .inl ⟨hg, hze⟩)
  have HNE := hid hne
  have HIZ := hid hI
  have HRW := hid hrow
  have HBS := hid (Below.refl u.heap.size u)
  have HV := hid hV
  have HMN := hid (smin_any u Az cz zs h0 hz)
  have HGZ := hid hg
  obtain ⟨nz, hnz⟩ : ∃ nz, zs.length = nz := ⟨_, rfl⟩
  rw [hnz] at h0 HMN zc1 HV ⊢
  have hk0 : ¬ (nz : Int) = 0 := by omega
  have hk1 : ((nz : Int) == 0) = false := beq_false_of_ne hk0
  clear hz hrow hI hne hze hV hg hnz
  go_enter Tryz.func20, Tryz.ntmps20
  go_wp2_with fail
  refine HMN.out.mono ?_
  rintro e w2 ⟨m, rfl, hm1, hm2, hw⟩
  obtain rfl : u = w2 := hw.symm
  have hm : ¬ m < 1 := by
   have := HGZ.out.2 m hm1
   omega
  clear hm1 hm2
  go_wp2_with fail
  rw [HV.out]
 all_goals (
  obtain ⟨N, hN⟩ : ∃ N, u.heap.size = N := ⟨_, rfl⟩
  have hnp : 0 < ne := by rw [HNE.out]; exact HUZ.out.pos
  obtain ⟨hne2, ec1, ec2⟩ := VRow.length HIZ.out
  rw [List.length_map, ← HNE.out] at ec1
  have HNN := hid hN
  have HIN := hid (show IRow u N (.slice Ae ne ce) ze from by rw [← hN]; exact HIZ.out)
  clear hne2 hN
  go_loopg [0, 5, 6] xs.length (fun gk bb cc ii wr => CkLoop u N ze xs gk bb cc ii wr)
  case atStart => exact ⟨0, _, _, _, _, [], rfl, rfl, by rw [Nat.zero_mod]; rfl, hid rfl, hid (fun j hj => absurd hj (Nat.not_lt_zero _)), hid rfl, hid (OwnC.nil _ _), hid (by rw [← HNN.out]; exact HRW.out), hid (Below.refl _ _)⟩
  case round =>
   obtain ⟨k, Ab, cb, Ac, ccp, cs, rfl, rfl, rfl, HGK, HNZ, HCS, HOC, HRB, HBW⟩ := hrel
   have hrl := restZ_le ze xs k
   have hcl := congrArg List.length HCS.out
   rw [List.length_map, chZ_length] at hcl
   by_cases hr : restZ ze xs k = []
   ·have hdz : DoneZ ze xs k := ⟨hr, HNZ.out⟩
    rw [hr]
    have HCZ := hid (show ChunksZ zs xs (cs.map (·.b)) from by rw [HCS.out]; exact HUZ.out.chunks hdz)
    clear hdz hr hrl hcl
    go_wp2_with fail
    go_ret
    exact ⟨Ac, ccp, cs, rfl, HCZ.out, HOC.out.base (by rw [← HNN.out]; exact HBS.out.size), HBS.out.trans (HBW.out.mono (by rw [← HNN.out]; exact HBS.out.size))⟩
   ·have hgd := HUZ.out.good (restZ_ne hr)
    have hsz := szZ_get (k := k) hgd
    have hrp : 0 < (restZ ze xs k).length := List.length_pos_iff.2 hr
    have hkm : k % ze.length < ne := by rw [HNE.out]; exact Nat.mod_lt _ HUZ.out.pos
    obtain ⟨b, o, rfl, hbl, hcc⟩ : ∃ b o, Ae = some ⟨b, o, none⟩ ∧ b < N ∧ ∀ i z, ze[i]? = some z → wr.cell? ⟨b, o + i, none⟩ = some (.int .i64 z) := by
     obtain ⟨A', c', hv, _, _, _, h4⟩ := HIN.out.below HBW.out
     injection hv with e1 _ _
     obtain ⟨b, o, e, hb, hc⟩ := h4 (by rw [List.length_map]; exact HUZ.out.pos)
     exact ⟨b, o, e1.trans e, hb, fun i z hz => hc i _ (by rw [List.getElem?_map, hz]; rfl)⟩
    have hq := HGK.out
    have x1 := hcc _ _ hsz
    have hrem := rem_next k ze.length HUZ.out.pos
    have HRR := hid hr
    have HKE := hid (show (((k + 1) % ne : Nat) : Int) = (((k + 1) % ze.length : Nat) : Int) by rw [HNE.out])
    rw [← HNE.out] at hkm x1 hrem ⊢
    obtain ⟨r, hr2⟩ : ∃ r, (restZ ze xs k).length = r := ⟨_, rfl⟩
    obtain ⟨z, hz2⟩ : ∃ z, szZ ze k = z := ⟨_, rfl⟩
    obtain ⟨q, hq2⟩ : ∃ q, min z r = q := ⟨_, rfl⟩
    obtain ⟨p, hp2⟩ : ∃ p, k % ne = p := ⟨_, rfl⟩
    obtain ⟨p', hp3⟩ : ∃ p', (k + 1) % ne = p' := ⟨_, rfl⟩
    rw [hp3] at HKE
    have hqi : min (z : Int) (r : Int) = (q : Int) := by omega
    have hqr : q ≤ r := by omega
    obtain ⟨hb1, hb2⟩ : r ≤ cb ∧ cb ≤ 9223372036854775807 := by
     obtain ⟨_, _, hv, q1, q2, _⟩ := HRB.out
     injection hv with _ _ e3
     unfold maxLen at q2
     exact ⟨by omega, by omega⟩
    have HRT := hid (HRB.out.take (k := q) (by omega))
    have hct : (restZ ze xs k).take q = cutZ ze xs k := by rw [← hq2, ← hr2, ← hz2]; exact cutZ_take ze xs k
    rw [hct] at HRT
    have hcl2 : (cutZ ze xs k).length = q := by rw [cutZ_len, hr2, hz2, hq2]
    have hnw : N ≤ wr.heap.size := by have := HBW.out.size; have := HNN.out; omega
    have hbc := bclone19_any wr Ab cb (cutZ ze xs k) (HRT.out.more hnw) (by rw [hcl2]; omega)
    have HCT := hid hcl2
    rw [hcl2] at hbc
    have HBC := hid hbc
    have HZ := hid hz2
    have HR2 := hid hr2
    have HQ2 := hid hq2
    rw [hz2, hp2] at x1
    rw [hp2, hp3] at hrem
    rw [hp2] at hkm ⊢
    rw [hr2] at hq hrl hrp ⊢
    have HGQ := hid hq
    have HLS := hid (restZ_less hgd HRR.out)
    obtain ⟨m, hm⟩ : ∃ m, cs.length = m := ⟨_, rfl⟩
    have hml : m ≤ 1000000000 := by have := restZ_len hgd k HNZ.out; omega
    have HML := hid hm
    rw [hm]
    have hir : (r : Int) > 0 := by omega
    have hj1 : (p : Int) < (ne : Int) := by omega
    have hj2 : (0 : Int) ≤ (q : Int) := by omega
    have hj3 : (q : Int) ≤ (cb : Int) := by omega
    have hj4 : (q : Int) ≤ (r : Int) := by omega
    clear hq hcl hgd hsz hcc hr hct hcl2 hbc hz2 hr2 hq2 hp2 hp3 hm
    go_wp2_with fail
    refine HBC.out.mono ?_
    rintro e w3 ⟨C2, c2, rfl, hown3, hb3⟩
    have HX3 := hid (show w3.ownsRow wr.heap.size 5 1 (.slice C2 (cutZ ze xs k).length c2) (cutZ ze xs k).length ((cutZ ze xs k).map (.int .u8)) from by rw [HCT.out]; exact hown3)
    have hz3 := hb3.size
    have ba := (Below.refl w3.heap.size w3).alloc (Nat.le_refl _) (.cells #[.slice C2 q c2] 22)
    have HOW := hid (show (w3.alloc (.cells #[.slice C2 q c2] 22)).ownsRow N 22 1 (.slice Ac m ccp) m (cuVs cs) from by have h := ((HOC.out.below hb3).below ba).1; rw [HML.out] at h; exact h)
    have HER := hid (ERow.new w3 22 [.slice C2 q c2] (n := 1) (by unfold maxLen; omega))
    have HB3 := hid hb3
    have HBA := hid ba
    have HCV := hid (show cuVs cs ++ [.slice C2 q c2] = cuVs (cs ++ [⟨C2, c2, cutZ ze xs k⟩]) from by rw [← cuVs_snoc]; unfold Cu.val; rw [HCT.out])
    have hN3 : N ≤ (w3.alloc (.cells #[.slice C2 q c2] 22)).heap.size := by rw [World.size_alloc]; omega
    clear hown3 hb3 ba
    rcases (show q = cb ∨ ¬ cb = q by omega) with rfl | hcq
    ·have hrq : r = q := by omega
     go_wp2_with (at_builtin; refine wpList_append_erow _ rfl _ _ 60 22 rfl N i1 (.slice none 0 0) 1 24 Tryz.underlying60 hi1 hy0 hy1 hy2 rfl (by decide) (.slice Ac m ccp) m (cuVs cs) (by rfl) HOW.out _ _ 1 [.slice C2 q c2] (by rfl) HER.out (by simp) (by simp [Value.oneCell']) (by unfold maxLen; omega) (by omega) hN3 (m + 1) rfl (cuVs (cs ++ [⟨C2, c2, cutZ ze xs k⟩])) HCV.out ?_; intro A6 c6 w6 hown6 hg6 hat6; have HO6 := hid hown6; have HG6 := hid hg6; clear hown6 hg6 hat6)
     go_roundg (restZ ze xs (k + 1)).length
     case measure => have := HLS.out; have := HGQ.out; have := HR2.out; omega
     case rel => rw [HKE.out]; exact CkLoop.next HNZ.out HRR.out HCS.out HOC.out HRB.out HBW.out hnw HX3.out HB3.out HBA.out HO6.out (by rw [HML.out]) (by rw [HML.out]; exact HG6.out) (.inl (by rw [HZ.out, HR2.out, HQ2.out])) rfl (by rw [HZ.out, HR2.out, HQ2.out]; omega) (by rw [HZ.out, HR2.out, HQ2.out]; omega)
    ·go_wp2_with (at_builtin; refine wpList_append_erow _ rfl _ _ 60 22 rfl N i1 (.slice none 0 0) 1 24 Tryz.underlying60 hi1 hy0 hy1 hy2 rfl (by decide) (.slice Ac m ccp) m (cuVs cs) (by rfl) HOW.out _ _ 1 [.slice C2 q c2] (by rfl) HER.out (by simp) (by simp [Value.oneCell']) (by unfold maxLen; omega) (by omega) hN3 (m + 1) rfl (cuVs (cs ++ [⟨C2, c2, cutZ ze xs k⟩])) HCV.out ?_; intro A6 c6 w6 hown6 hg6 hat6; have HO6 := hid hown6; have HG6 := hid hg6; clear hown6 hg6 hat6)
     go_roundg (restZ ze xs (k + 1)).length
     case measure => have := HLS.out; have := HGQ.out; have := HR2.out; omega
     case rel => rw [HKE.out]; exact CkLoop.next HNZ.out HRR.out HCS.out HOC.out HRB.out HBW.out hnw HX3.out HB3.out HBA.out HO6.out (by rw [HML.out]) (by rw [HML.out]; exact HG6.out) (.inr (by rw [HZ.out, HR2.out, HQ2.out])) rfl (by rw [HZ.out, HR2.out, HQ2.out]) (by rw [HZ.out, HR2.out, HQ2.out]))
theorem infoStr19 : (Tryz.prog.info? 9).map (fun i => (i.zero, i.size, i.bytes)) = some (some (.string ⟨#[]⟩), 1, 16) := by kernel_rfl
theorem own_empty19 (w : World) (base : Nat) (e : TypeId) (hb : base ≤ w.heap.size) : (w.alloc (.cells #[] e)).ownsRow base e 1 (.slice (some ⟨w.heap.size, 0, none⟩) 0 0) 0 [] :=
 ⟨rfl, .inr ⟨w.heap.size, 0, #[], rfl, hb, heap_alloc_new w _, Nat.le_refl _, Nat.zero_le _, rfl, rfl⟩⟩
theorem good_next {zs : List Int} {n k : Nat} {z : Int} (hz : zs[k]? = some z) : (0 < n ∧ ∀ y ∈ zs.take (k + 1), 0 < y) ↔ ((0 < n ∧ ∀ y ∈ zs.take k, 0 < y) ∧ 0 < z) := by
 rw [List.take_add_one, hz]
 constructor
 ·rintro ⟨h1, h2⟩
  exact ⟨⟨h1, fun y hy => h2 y (List.mem_append_left _ hy)⟩, h2 z (List.mem_append_right _ (by simp))⟩
 ·rintro ⟨⟨h1, h2⟩, h3⟩
  refine ⟨h1, fun y hy => ?_⟩
  rcases List.mem_append.1 hy with hy | hy
  ·exact h2 y hy
  ·have : y = z := by simpa using hy
   rw [this]; exact h3
theorem str_nil {xs : List Int} (h : (strOfNums xs).toList = []) : xs = [] := by
 rw [ByteArray.toList_eq, strOfNums_data] at h
 exact List.map_eq_nil_iff.1 h
def RChunked (w : World) (zs xs : List Int) (e : Ending) (w' : World) : Prop :=
 ∃ A c L, e = .returned (.slice A (L : List (List Int)).length c) ∧ ChunksZ zs xs L ∧ w'.ownsRow w.heap.size 9 1 (.slice A L.length c) L.length (strVs L) ∧ Below w.heap.size w w'
def RkLoop (w : World) (N : Nat) (zs xs : List Int) (gk : Nat) (ss vv ii : Value) (wr : World) : Prop :=
 ∃ (k : Nat) (A : Option Addr) (c : Nat), ss = .string (strOfNums (restZ zs xs k)) ∧ vv = .slice A k c ∧ ii = .int .i64 k ∧ Hid ((restZ zs xs k).length = gk) ∧ Hid (∀ j, j < k → restZ zs xs j ≠ []) ∧ Hid (wr.ownsRow N 9 1 (.slice A k c) k (strVs (chZ zs xs k))) ∧ Hid (Below N w wr)
theorem rchunks_any (w : World) (xs : List Int) (hl : xs.length ≤ 1000000000) (Az : Option Addr) (cz : Nat) (zs : List Int) (hz : IRow w w.heap.size (.slice Az zs.length cz) zs) :
  Calls Tryz.prog 21 #[.string (strOfNums xs), .slice Az zs.length cz] w (RChunked w zs xs) := by
 obtain ⟨i0, hi, hy0, hy1, hy2⟩ := info_parts infoStr19
 obtain ⟨-, zc1, zc2⟩ := VRow.length hz
 rw [List.length_map] at zc1
 have HGD := hid (show (0 < zs.length ∧ ∀ y ∈ zs.take zs.length, 0 < y) ↔ GoodZ zs from by
  rw [List.take_length]
  exact ⟨fun h => ⟨List.length_pos_iff.1 h.1, h.2⟩, fun h => ⟨List.length_pos_iff.2 h.1, h.2⟩⟩)
 have HC := hid (fun (k : Nat) (hk : k < zs.length) => (by
  obtain ⟨A', c', hv, _, _, _, h4⟩ := hz
  injection hv with e1 _ _
  obtain ⟨b, o, e, hb, hc⟩ := h4 (by rw [List.length_map]; omega)
  exact ⟨b, o, _, e1.trans e, hb, List.getElem?_eq_getElem hk, hc k _ (by rw [List.getElem?_map, List.getElem?_eq_getElem hk]; rfl)⟩ : ∃ b o z, Az = some ⟨b, o, none⟩ ∧ b < w.heap.size ∧ zs[k]? = some z ∧ w.cell? ⟨b, o + k, none⟩ = some (.int .i64 z)))
 have HZL := hid (show ∀ k, GoodZ zs → k % zs.length < zs.length from fun k h => Nat.mod_lt _ (List.length_pos_iff.2 h.1))
 have HZG := hid (fun k (h : GoodZ zs) => szZ_get (k := k) h)
 have hst : decide ((zs.length : Int) > 0) = decide (0 < zs.length) := by by_cases h : 0 < zs.length <;> simp [h]
 have HST := hid (show decide (0 < zs.length) = true ↔ (0 < zs.length ∧ ∀ y ∈ zs.take 0, 0 < y) from by simp)
 obtain ⟨n, hn⟩ : ∃ n, zs.length = n := ⟨_, rfl⟩
 have HN := hid hn
 rw [hn] at HGD HC HZL HZG HST hst zc1 ⊢
 clear hz hn
 unfold RChunked
 go_enter Tryz.func21, Tryz.ntmps21
 go_wp2_with fail
 go_loopg [5, 6] n (fun gk bb ii wr => ∃ (k : Nat) (g : Bool), bb = .bool g ∧ ii = .int .i64 k ∧ k ≤ n ∧ Hid (n - k = gk) ∧ Hid (g = true ↔ (0 < n ∧ ∀ y ∈ zs.take k, 0 < y)) ∧ wr = w)
 case atStart => exact ⟨0, _, rfl, rfl, Nat.zero_le _, hid rfl, HST, rfl⟩
 case round =>
  obtain ⟨k, g, rfl, rfl, hk, HGK, HG, hww⟩ := hrel
  obtain rfl : w = wr := hww.symm
  by_cases hlt : k < n
  ·obtain ⟨b, o, z, rfl, hb, hzk, hcell⟩ := HC.out k hlt
   have HNX := hid (good_next (n := n) hzk)
   clear hzk
   cases g with
   | false =>
    have HG2 := hid (show false = true ↔ (0 < n ∧ ∀ y ∈ zs.take (k + 1), 0 < y) from by rw [HNX.out, ← HG.out]; simp)
    go_wp2_with fail
    go_roundg (n - (k + 1))
    case measure => have := HGK.out; omega
    case rel => exact ⟨k + 1, false, rfl, by go_num, hlt, hid rfl, HG2, rfl⟩
   | true =>
    have HG2 := hid (show decide (0 < z) = true ↔ (0 < n ∧ ∀ y ∈ zs.take (k + 1), 0 < y) from by rw [HNX.out, ← HG.out]; simp)
    obtain ⟨g2, hg2⟩ : ∃ g2, decide (0 < z) = g2 := ⟨_, rfl⟩
    rw [hg2] at HG2
    go_wp2_with fail
    go_roundg (n - (k + 1))
    case measure => have := HGK.out; omega
    case rel => exact ⟨k + 1, g2, by first | rfl | rw [← hg2], by go_num, hlt, hid rfl, HG2, rfl⟩
  ·obtain rfl : k = n := by omega
   have HGZ := hid (show g = true ↔ GoodZ zs from HG.out.trans HGD.out)
   obtain ⟨u, hu⟩ : ∃ u, w.alloc (.cells #[] 9) = u := ⟨_, rfl⟩
   have bu : Below w.heap.size w u := by rw [← hu]; exact (Below.refl _ _).alloc (Nat.le_refl _) _
   have HE := hid (show u.ownsRow w.heap.size 9 1 (.slice (some ⟨w.heap.size, 0, none⟩) 0 0) 0 [] from by rw [← hu]; exact own_empty19 w _ _ (Nat.le_refl _))
   have hzu : u.heap.size = w.heap.size + 1 := by rw [← hu, World.size_alloc]
   have HBU := hid bu
   have hss : (strOfNums xs).size = xs.length := strOfNums_size xs
   by_cases hbad : g = false ∧ xs ≠ []
   ·obtain ⟨rfl, hx⟩ := hbad
    have hxe : strOfNums xs ≠ ⟨#[]⟩ := fun e => by have := congrArg ByteArray.size e; rw [hss] at this; exact hx (List.eq_nil_of_length_eq_zero this)
    have hxb : (strOfNums xs).toList.isEmpty = false := by
     cases hq : (strOfNums xs).toList with
     | nil => exact absurd (str_nil hq) hx
     | cons _ _ => rfl
    have hng : ¬ GoodZ zs := fun h => by have := HGZ.out.2 h; cases this
    have HNG := hid hng
    have HX := hid hx
    have HZU := hid hzu
    clear hng bu hx hss hzu
    go_wp2_with (at_builtin; refine wpList_append_erow _ rfl _ _ 62 9 rfl w.heap.size i0 (.string ⟨#[]⟩) 1 16 Tryz.underlying62 hi hy0 hy1 hy2 rfl (by decide) (.slice (some ⟨w.heap.size, 0, none⟩) 0 0) 0 [] (by rfl) (World.ownsRow.alloc HE.out _) _ _ 1 [.string (strOfNums xs)] (by rfl) (ERow.new u 9 [.string (strOfNums xs)] (n := 1) (by unfold maxLen; omega)) (by simp) (by simp [Value.oneCell']) (by unfold maxLen; omega) (by omega) (by rw [World.size_alloc, HZU.out]; omega) 1 rfl (strVs [xs]) rfl ?_; intro A6 c6 w6 hown6 hg6 hat6; have HO6 := hid hown6; have HG6 := hid hg6; clear hown6 hg6 hat6)
    go_ret
    refine ⟨A6, c6, [xs], rfl, .inl ⟨HNG.out, HX.out, rfl⟩, HO6.out, ?_⟩
    exact ((HBU.out.alloc (by rw [HZU.out]; omega) _).grown HG6.out (by rw [World.size_alloc, HZU.out]; omega) (fun j e => by simp [Value.ownBlock] at e; omega))
   ·have hgx : g = true ∨ (g = false ∧ xs = []) := by
     cases g with
     | true => exact .inl rfl
     | false => exact .inr ⟨rfl, Classical.byContradiction fun hx => hbad ⟨rfl, hx⟩⟩
    have HZU := hid hzu
    clear hbad bu hss hzu
    rcases hgx with rfl | ⟨rfl, rfl⟩
    ·have hgd := HGZ.out.1 rfl
     have HGD := hid hgd
     have hnp : 0 < k := by rw [← HN.out]; exact List.length_pos_iff.2 hgd.1
     clear hgd
     go_wp2_with fail
     go_loopg [0, 7, 8] xs.length (fun gk ss vv ii wr => RkLoop w w.heap.size zs xs gk ss vv ii wr)
     case atStart => exact ⟨0, _, _, rfl, rfl, rfl, hid rfl, hid (fun j hj => absurd hj (Nat.not_lt_zero _)), HE, HBU⟩
     case round =>
      obtain ⟨k2, A2, c2, rfl, rfl, rfl, HGK2, HNZ, HO2, HBW⟩ := hrel
      have hss : (strOfNums (restZ zs xs k2)).size = (restZ zs xs k2).length := strOfNums_size _
      have hrl := restZ_le zs xs k2
      by_cases hr : restZ zs xs k2 = []
      ·have HCZ := hid (show ChunksZ zs xs (chZ zs xs k2) from .inr ⟨.inl HGD.out, k2, ⟨hr, HNZ.out⟩, rfl⟩)
       rw [hr] at hss ⊢
       have hs0 : (strOfNums []).size = 0 := rfl
       clear hr hrl
       go_wp2_with fail
       go_ret
       exact ⟨A2, c2, chZ zs xs k2, by rw [chZ_length]; rfl, HCZ.out, by rw [chZ_length]; exact HO2.out, HBW.out⟩
      ·have hrp : 0 < (restZ zs xs k2).length := List.length_pos_iff.2 hr
       have hkl := restZ_len HGD.out k2 HNZ.out
       have hkm := HZL.out k2 HGD.out
       obtain ⟨b, o, z0, rfl, hb, hz0, hcell⟩ := HC.out _ hkm
       obtain rfl : z0 = ((szZ zs k2 : Nat) : Int) := by have := HZG.out k2 HGD.out; rw [hz0] at this; injection this
       have hcell2 := (World.cell?_of_block (a := ⟨b, o + k2 % k, none⟩) (HBW.out.block b hb)).trans hcell
       have hrem : ((k2 : Nat) : Int).tmod (k : Int) = ((k2 % k : Nat) : Int) := by rw [Int.tmod_eq_emod_of_nonneg (by omega), Int.natCast_emod]
       have HLS := hid (restZ_less HGD.out hr)
       have HRR := hid hr
       have hck1 := cutZ_take zs xs k2
       have hck2 := restZ_drop zs xs k2
       obtain ⟨r, hr2⟩ : ∃ r, (restZ zs xs k2).length = r := ⟨_, rfl⟩
       obtain ⟨z, hz2⟩ : ∃ z, szZ zs k2 = z := ⟨_, rfl⟩
       have hwu := HBU.out.size
       have hww := HBW.out.size
       rw [hr2, hz2] at hck1 hck2
       rw [hr2] at hss hrl hrp
       rw [hz2] at hcell2
       obtain ⟨p, hp⟩ : ∃ p, k2 % k = p := ⟨_, rfl⟩
       rw [hp] at hrem hkm hcell2
       have hj1 : (p : Int) < (k : Int) := by omega
       have hap : ∀ (W : World) (q : Nat) (W6 : World) (A6 : Option Addr) (c6 : Nat), min z r = q → Below wr.heap.size wr W → W6.ownsRow w.heap.size 9 1 (.slice A6 (k2 + 1) c6) (k2 + 1) (strVs (chZ zs xs (k2 + 1))) → W.grownBy W6 (Value.slice A2 k2 c2).ownBlock → RkLoop w w.heap.size zs xs (restZ zs xs (k2 + 1)).length (.string (strOfNums (restZ zs xs (k2 + 1)))) (.slice A6 (k2 + 1) c6) (.int .i64 ((k2 : Int) + 1)) W6 := by
        intro W q W6 A6 c6 hq hW ho hg
        refine ⟨k2 + 1, A6, c6, rfl, rfl, by go_num, hid rfl, hid (fun j hj => ?_), hid ho, hid ((HBW.out.trans (hW.mono hww)).trans ((Below.refl _ _).grown hg (Nat.le_trans hww hW.size) (fun j e => (World.ownsRow.lt HO2.out j e).1)))⟩
        rcases Nat.lt_succ_iff_lt_or_eq.1 hj with h | rfl
        ·exact HNZ.out j h
        ·exact HRR.out
       have HAP := hid hap
       have HR2 := hid hr2
       have HK1 := hid hck1
       have HK2 := hid hck2
       obtain ⟨R, hRR⟩ : ∃ R, restZ zs xs k2 = R := ⟨_, rfl⟩
       have HRQ := hid hRR
       rw [hRR] at hss ⊢
       clear hap hck1 hck2 hr hr2 hz2 hp hz0 hcell hRR
       by_cases hzr : z ≤ r
       ·have hzi : ¬ (z : Int) > (r : Int) := by omega
        have e1 : (strOfNums R).extract 0 z = strOfNums (cutZ zs xs k2) := by rw [str_cut, List.drop_zero, ← HRQ.out, ← HK1.out, Nat.min_eq_left hzr]
        have e2 : (strOfNums R).extract z r = strOfNums (restZ zs xs (k2 + 1)) := by rw [str_cut, ← HRQ.out, List.take_of_length_le (by rw [HR2.out]; exact Nat.le_refl _), ← HK2.out, Nat.min_eq_left hzr]
        have j1 : (0 : Int) ≤ (z : Int) := by omega
        have j2 : (z : Int) ≤ (r : Int) := by omega
        go_wp2_with (at_builtin; refine wpList_append_erow _ rfl _ _ 62 9 rfl w.heap.size i0 (.string ⟨#[]⟩) 1 16 Tryz.underlying62 hi hy0 hy1 hy2 rfl (by decide) (.slice A2 k2 c2) k2 (strVs (chZ zs xs k2)) (by rfl) (World.ownsRow.alloc HO2.out _) _ _ 1 [.string (strOfNums (cutZ zs xs k2))] (by rfl) (ERow.new wr 9 [.string (strOfNums (cutZ zs xs k2))] (n := 1) (by unfold maxLen; omega)) (by simp) (by simp [Value.oneCell']) (by unfold maxLen; omega) (by omega) (by rw [World.size_alloc]; omega) (k2 + 1) rfl (strVs (chZ zs xs (k2 + 1))) (by rw [chZ_succ, strVs_snoc]) ?_; intro A6 c6 w6 hown6 hg6 hat6; have HO6 := hid hown6; have HG6 := hid hg6; clear hown6 hg6 hat6)
        go_roundg (restZ zs xs (k2 + 1)).length
        case measure => have := HLS.out; have := HGK2.out; omega
        case rel => exact HAP.out _ _ w6 A6 c6 rfl ((Below.refl _ _).alloc (Nat.le_refl _) _) HO6.out HG6.out
       ·have hzi : (z : Int) > (r : Int) := by omega
        have e1 : (strOfNums R).extract 0 r = strOfNums (cutZ zs xs k2) := by rw [str_cut, List.drop_zero, ← HRQ.out, ← HK1.out, Nat.min_eq_right (by omega)]
        have e2 : strOfNums (restZ zs xs (k2 + 1)) = ByteArray.empty := by rw [← HK2.out, Nat.min_eq_right (by omega), List.drop_of_length_le (by rw [HR2.out]; exact Nat.le_refl _)]; rfl
        have HE2 := hid e2
        clear e2
        have j1 : (0 : Int) ≤ (r : Int) := by omega
        go_wp2_with (at_builtin; refine wpList_append_erow _ rfl _ _ 62 9 rfl w.heap.size i0 (.string ⟨#[]⟩) 1 16 Tryz.underlying62 hi hy0 hy1 hy2 rfl (by decide) (.slice A2 k2 c2) k2 (strVs (chZ zs xs k2)) (by rfl) (World.ownsRow.alloc HO2.out _) _ _ 1 [.string (strOfNums (cutZ zs xs k2))] (by rfl) (ERow.new wr 9 [.string (strOfNums (cutZ zs xs k2))] (n := 1) (by unfold maxLen; omega)) (by simp) (by simp [Value.oneCell']) (by unfold maxLen; omega) (by omega) (by rw [World.size_alloc]; omega) (k2 + 1) rfl (strVs (chZ zs xs (k2 + 1))) (by rw [chZ_succ, strVs_snoc]) ?_; intro A6 c6 w6 hown6 hg6 hat6; have HO6 := hid hown6; have HG6 := hid hg6; clear hown6 hg6 hat6)
        go_roundg (restZ zs xs (k2 + 1)).length
        case measure => have := HLS.out; have := HGK2.out; omega
        case rel =>
         have h := HAP.out _ _ w6 A6 c6 rfl ((Below.refl _ _).alloc (Nat.le_refl _) _) HO6.out HG6.out
         rw [HE2.out] at h
         exact h
    ·have hs0 : (strOfNums []).size = 0 := rfl
     have hse : strOfNums [] = ⟨#[]⟩ := rfl
     go_wp2_with fail
     go_loopg [0, 7, 8] 0 (fun gk ss vv ii wr => RkLoop w w.heap.size zs [] gk ss vv ii wr)
     case atStart => exact ⟨0, _, _, rfl, rfl, rfl, hid rfl, hid (fun j hj => absurd hj (Nat.not_lt_zero _)), HE, HBU⟩
     case round =>
      obtain ⟨k2, A2, c2, rfl, rfl, rfl, HGK2, HNZ, HO2, HBW⟩ := hrel
      have hr : restZ zs [] k2 = [] := List.eq_nil_of_length_eq_zero (by have := restZ_le zs [] k2; simpa using this)
      have HCZ := hid (show ChunksZ zs [] (chZ zs [] k2) from .inr ⟨.inr rfl, k2, ⟨hr, HNZ.out⟩, rfl⟩)
      rw [hr]
      clear hr
      go_wp2_with fail
      go_ret
      exact ⟨A2, c2, chZ zs [] k2, by rw [chZ_length]; rfl, HCZ.out, by rw [chZ_length]; exact HO2.out, HBW.out⟩
theorem pclone_any (w : World) (C : Option Addr) (cc k : Nat) (us : List Value) (hrow : ERow w w.heap.size (.slice C k cc) k us) (h1 : ∀ u ∈ us, u.oneCell' = true) (hlen : us.length = k * 2) (hl : k ≤ 1000000000) :
  Calls Tryz.prog 75 #[.slice C k cc] w fun e w' => ∃ C2 c2, e = .returned (.slice C2 k c2) ∧ w'.ownsRow w.heap.size 55 2 (.slice C2 k c2) k us ∧ Below w.heap.size w w' := by
 obtain ⟨i1, hi1, hy0, hy1, hy2⟩ := info_parts Tryz.infoPoint
 obtain ⟨-, l1, l2⟩ := hrow.len
 rcases C with _ | ad
 ·have h0 : k = 0 ∧ cc = 0 := by
   obtain ⟨A', c', hv, q1, q2, q3, q4⟩ := hrow
   injection hv with e1 e2 e3
   subst e1 e3
   have := q3 rfl
   omega
  obtain ⟨rfl, rfl⟩ := h0
  have hu : us = [] := List.eq_nil_of_length_eq_zero (by omega)
  subst hu
  clear hrow
  have hnl := Lib.run_eql_slice_nil (P := Tryz.prog) w 25 55 none 0 0 0 0 Tryz.underlying25
  go_enter Tryz.func75, Tryz.ntmps75
  go_wp2_with fail
  go_ret
  exact ⟨none, 0, rfl, World.ownsRow_nil _ _ _ _, Below.refl _ _⟩
 ·have ba := (Below.refl w.heap.size w).alloc (Nat.le_refl _) (.cells #[] 55)
  have hno := own_none (w := w) (base := w.heap.size) (e := 55) (size := 2) (Nat.le_refl _)
  have HR2 := hid (hrow.below ba)
  have HNO := hid hno
  have HB := hid ba
  have HL := hid hlen
  clear hrow hno ba hlen
  have hnl := Lib.run_eql_slice_nil (P := Tryz.prog) w 25 55 (some ad) k cc 0 0 Tryz.underlying25
  go_enter Tryz.func75, Tryz.ntmps75
  go_wp2_with (at_builtin; refine wpList_append_erow _ rfl _ _ 25 55 rfl w.heap.size i1 (.agg #[.int .u64 0, .slice none 0 0]) 2 32 Tryz.underlying25 hi1 hy0 hy1 hy2 rfl (by decide) (.slice (some ⟨w.heap.size, 0, none⟩) 0 0) 0 [] (by rfl) HNO.out _ _ k us (by rfl) HR2.out HL.out h1 (by unfold maxLen; omega) (by omega) (by rw [World.size_alloc]; omega) k (by omega) us (by simp) ?_; intro A6 c6 w6 hown6 hg6 hat6; have HO6 := hid hown6; have HG6 := hid hg6; clear hown6 hg6 hat6)
  go_ret
  have hlow : ∀ j, (Value.slice (some (⟨w.heap.size, 0, none⟩ : Addr)) 0 0).ownBlock = some j → w.heap.size ≤ j := fun j e => Nat.le_of_eq (by simpa [Value.ownBlock] using e)
  exact ⟨A6, c6, rfl, HO6.out, HB.out.grown HG6.out (by rw [World.size_alloc]; omega) hlow⟩
theorem snew_any (w : World) :
  Calls Tryz.prog 22 #[] w fun e w' => ∃ s f t, e = .returned (.pointer (some ⟨s, 0, none⟩)) ∧ w.heap.size ≤ f ∧ KAt w' w.heap.size s f t [] none 0 [] none 0 [] none 0 ∧ Fed w' w.heap.size f (.slice none 0 0) [] [] 0 0 ∧ Below w.heap.size w w' := by
 go_enter Tryz.func22, Tryz.ntmps22
 go_wp2_with fail
 refine (fnew_any w).mono ?_
 rintro e w1 ⟨rfl, hf1, hb1⟩
 have HF1 := hid hf1
 have HB1 := hid hb1
 clear hf1 hb1
 go_wp2_with fail
 refine (rnew_any w1).mono ?_
 rintro e w2 ⟨rfl, ht2, hb2⟩
 have hz1 := HB1.out.size
 have hf2 := HF1.out.below hb2 HF1.out.lt
 have HF2 := hid hf2
 have HT2 := hid ht2
 have HB2 := hid (HB1.out.trans (hb2.mono hz1))
 clear hf2 ht2 hb2 HF1
 go_wp2_with fail
 go_ret
 have ba := (Below.refl w2.heap.size w2).alloc (Nat.le_refl _) (.cells #[.pointer (some ⟨w.heap.size, 0, none⟩), .pointer (some ⟨w1.heap.size, 0, none⟩), .int .i64 0, .int .i64 0] 71)
 have ht := HT2.out.below ba
 refine ⟨w2.heap.size, w.heap.size, w1.heap.size, rfl, Nat.le_refl _, ⟨heap_alloc_new w2 _, HB2.out.size, ⟨ht.held, hz1, ?_, ht.sigp, ?_, ht.ptsp, ?_⟩⟩, ⟨HF2.out.below ba HF2.out.lt, World.ownsRow_nil _ _ _ _, Fd.start⟩, HB2.out.trans (ba.mono HB2.out.size)⟩
 ·exact OwnP.nil _ _
 ·exact OwnT.nil _ _
 ·exact World.ownsRow_nil _ _ _ _
section
variable {w : World} {n s f t : Nat} {T : List Sg} {SA : Option Addr} {Sc : Nat} {es : List Pd} {PA : Option Addr} {Pc : Nat} {ps : List Pm} {RA : Option Addr} {Rc : Nat}
def NGot (w : World) (n s f t : Nat) (T D : List Sg) (PA RA : Option Addr) (e : Ending) (w' : World) : Prop :=
 ∃ A c qs m SA Sc es PA' Pc ps RA' Rc, e = .returned (.slice A (qs : List Pm).length c) ∧ w.heap.size ≤ m ∧ OwnT w' m (.slice A qs.length c) qs ∧ (gT (T ++ D)).pts = (gT T).pts ++ qs.map (·.p) ∧
  KAt w' n s f t (T ++ D) SA Sc es PA' Pc ps RA' Rc ∧ PartN (KS s t PA RA) w w' ∧ (∀ j, TS t PA' RA' j → TS t PA RA j ∨ w.heap.size ≤ j) ∧ ∀ j, TS t PA' RA' j → j < m
def SmLoop (w : World) (s f t m a p : Nat) (D : List Sg) (gk : Nat) (iv : Value) (wr : World) : Prop :=
 ∃ k : Nat, iv = .int .i64 k ∧ k ≤ m ∧ Hid (m - k = gk) ∧ Hid (SBox wr s f t ((a + sumN (D.take k) : Nat) : Int) p) ∧ Hid (PartN (fun j => j = s) w wr)
theorem SmLoop.next {wr w6 : World} {s f t m a p k : Nat} {D : List Sg} (hp : PartN (fun j => j = s) w wr) (h6 : PartN (fun j => j = s) wr w6) (hb : SBox w6 s f t ((a + sumN (D.take (k + 1)) : Nat) : Int) p) (hk : k < m) (h64 : m ≤ 1000000) : SmLoop w s f t m a p D (m - (k + 1)) (.int .i64 ((k : Int) + 1)) w6 :=
 ⟨k + 1, by go_num, hk, hid rfl, hid hb, hid (hp.trans h6)⟩
theorem run_field19 (w : World) (a b c d e : Value) : (Instr.field 28 (.agg #[a, b, c, d, e]) 1).run Tryz.prog w = .ok b w := by kernel_rfl
theorem news_any (hk : KAt w n s f t T SA Sc es PA Pc ps RA Rc) (qs : List Pt) (A : Option Addr) (c n1 : Nat) (hs : Segs w n1 (.slice A qs.length c) qs) (hnp : NewP n1 qs) (hlow : ∀ j, KS s t PA RA j → j < n1) (hT : TdOk (T ++ qs.map (·.s))) :
  Calls Tryz.prog 50 #[.pointer (some ⟨s, 0, none⟩), .slice A qs.length c] w (NGot w n s f t T (qs.map (·.s)) PA RA) := by
 by_cases h0 : qs = []
 ·subst h0
  have HK := hid hk
  clear hk hs hnp hlow hT
  unfold NGot
  go_enter Tryz.func50, Tryz.ntmps50
  go_wp2_with fail
  go_ret
  exact ⟨none, 0, [], w.heap.size, SA, Sc, es, PA, Pc, ps, RA, Rc, rfl, Nat.le_refl _, OwnT.nil _ _, by simp, by simpa using HK.out, PartN.refl _ _, fun j hj => .inl hj, fun j hj => (HK.out.tak.lt hj).2⟩
 have hq0 : 0 < qs.length := List.length_pos_iff.2 h0
 have hml : qs.length ≤ 90000 := by have := hT.1; rw [List.length_append, List.length_map] at this; omega
 obtain ⟨-, hc1, hc2⟩ := (ERow.of_own hs.1).len
 have HJ := hid (fun W' (hp : PartN (KS s t PA RA) w W') => jrow_new (fun p hp => by
  have h := hT.mem p.s (List.mem_append_right _ (List.mem_map_of_mem hp))
  exact ⟨h.2.1, by omega, h.2.2⟩) hs hnp hlow hp)
 have HTD := hid hT
 have HK := hid hk
 have HSM := hid hT.sum
 obtain ⟨P, hP⟩ : ∃ P, (gT T).pts.length = P := ⟨_, rfl⟩
 have hPl : P ≤ 92160000 := by rw [← hP]; exact hT.less.cnts.1
 obtain ⟨m, hm⟩ : ∃ m, qs.length = m := ⟨_, rfl⟩
 have hbx := hk.box
 rw [hP] at hbx
 have HBX := hid hbx
 have HP := hid hP
 rw [hm] at HJ hc1 hml hq0 ⊢
 have HM := hid hm
 clear hk hs hnp hlow hT hbx hP hm h0
 unfold NGot
 go_enter Tryz.func50, Tryz.ntmps50
 go_wp2_with fail
 go_loopg [14] m (fun gk iv wr => SmLoop w s f t m (sumN T) P (qs.map (·.s)) gk iv wr)
 case atStart => exact ⟨0, rfl, Nat.zero_le _, hid rfl, hid (by simpa [sumN] using HBX.out), hid (PartN.refl _ _)⟩
 case round =>
  obtain ⟨k, rfl, hk, HGK, HBR, HPR⟩ := hrel
  have hp0 : PartN (KS s t PA RA) w wr := HPR.out.more (fun j e => .inl e)
  have hj := HJ.out wr hp0
  have hltb := HBR.out.lt
  by_cases hlt : k < m
  ·obtain ⟨x, hx⟩ : ∃ x, qs[k]? = some x := ⟨_, List.getElem?_eq_getElem (by rw [HM.out]; exact hlt)⟩
   have hxj : (qs.map toJ)[k]? = some (toJ x) := by rw [List.getElem?_map, hx]; rfl
   have hxd : (qs.map (·.s))[k]? = some x.s := by rw [List.getElem?_map, hx]; rfl
   obtain ⟨b, o, rfl, hbl, v0, v1, v2, v3, v4⟩ := hj.at hxj
   have hst := sumN_step hxd
   have hsb : sumN T + (sumN ((qs.map (·.s)).take k) + x.s.n) ≤ 1000000000 := by
    have h1 := HSM.out
    have h2 := sumN_append ((qs.map (·.s)).take (k + 1)) ((qs.map (·.s)).drop (k + 1))
    rw [List.take_append_drop] at h2
    rw [sumN_append] at h1
    omega
   obtain ⟨X, hX⟩ : ∃ X, sumN T + sumN ((qs.map (·.s)).take k) = X := ⟨_, rfl⟩
   have HNX := hid (show sumN T + sumN ((qs.map (·.s)).take (k + 1)) = X + x.s.n by omega)
   rw [hX] at HBR
   have hwr : IntKind.i64.wrap ((X : Int) + (x.s.n : Int)) = (X : Int) + (x.s.n : Int) := IntWalk.i64_in _ (by omega)
   obtain ⟨u, hu⟩ : ∃ u, wr.alloc (.cells #[.int .i64 (toJ x).s.frm, .int .i64 (toJ x).s.n, .bool (toJ x).s.isf, .int .i64 (toJ x).s.kind, .slice (toJ x).A (toJ x).s.pay.length (toJ x).c] 46) = u := ⟨_, rfl⟩
   have bu : Below wr.heap.size wr u := by rw [← hu]; exact (Below.refl _ _).alloc (Nat.le_refl _) _
   have hh : Held u wr.heap.size 46 #[.int .i64 (toJ x).s.frm, .int .i64 (toJ x).s.n, .bool (toJ x).s.isf, .int .i64 (toJ x).s.kind, .slice (toJ x).A (toJ x).s.pay.length (toJ x).c] := by rw [← hu]; exact heap_alloc_new wr _
   have q1 := hh.cell 1
   simp at q1
   rw [show (toJ x).s.n = (x.s.n : Int) from rfl] at q1
   have hbu := HBR.out.below bu hltb
   have y2 := hbu.cell 2
   simp at y2
   have f2 := hbu.frozen 2
   have hltu := hbu.lt
   have HBU := hid hbu
   have HU := hid bu
   clear hx hxj hxd hj hst hsb hX hh bu hbu hp0
   go_wp2_with fail
   go_region
   all_goals (
   go_wp2_with fail
   go_roundg (m - (k + 1))
   case measure => have := HGK.out; omega
   case rel => exact SmLoop.next HPR.out (((PartN.of_below (S := fun j => j = s) HU.out).trans (PartN.put (S := fun j => j = s) (b := s) rfl 2 _)).trans (PartN.of_below (Below.refl _ _).drew)) (by rw [HNX.out, Int.natCast_add]; exact held_drew (by simpa using HBU.out.put 2 (.int .i64 ((X : Int) + x.s.n)))) hlt (by omega))
  ·have hkm : k = m := by omega
   subst hkm
   have hwx : PartN (fun j => j = s) w wr := HPR.out
   have hbx : SBox wr s f t ((sumN (T ++ qs.map (·.s)) : Nat) : Int) P := by
    have h := HBR.out
    rw [List.take_of_length_le (by rw [List.length_map, HM.out]; exact Nat.le_refl _), ← sumN_append] at h
    exact h
   have htk : TAt wr n t (gT T) SA Sc es PA Pc ps RA Rc := HK.out.tak.nots hwx (fun e he => by
    rintro j c z rfl
    refine NotT.of_held HK.out.box ?_ j c z rfl
    rcases he with rfl | rfl | rfl | rfl | rfl | rfl | rfl <;> decide)
   have HTK := hid (rtake_any htk HTD.out.less.ig HTD.out.less.bd A c (qs.map toJ) (fun W' hp => by
    rw [List.length_map, HM.out]
    exact HJ.out W' (hp0.trans (hp.more (fun j e => .inr e)))) (by rw [List.length_map, HM.out]; omega))
   rw [List.length_map, HM.out, List.map_map, show ((·.s) ∘ toJ : Pt → Sj) = sgJ ∘ (fun p : Pt => p.s) from rfl, ← List.map_map, ← gT_append] at HTK
   have HW := hid (show ∀ W', PartN (TS t PA RA) wr W' → SBox W' s f t ((sumN (T ++ qs.map (·.s)) : Nat) : Int) P from fun W' hp => hbx.nots hp (htk.notS _ (by decide) (by decide) (by decide)))
   have x1 := hbx.cell 1
   simp at x1
   have HHT := hid htk
   clear hj hbx htk HBR
   go_wp2_with fail
   refine HTK.out.mono ?_
   rintro e w3 ⟨rfl, SA3, Sc3, es3, PA3, Pc3, ps3, RA3, Rc3, h3, hp3, hs3⟩
   have hb3 := HW.out w3 hp3
   have x3 := hb3.cell 1
   simp at x3
   have hlt3 := hb3.lt
   have hcn := HTD.out.cnts
   have HG3 := hid (rgot_any h3 HTD.out.ig.trc (by rw [← h3.ptsp, List.length_map] at hcn; omega) (by omega))
   have HH3 := hid h3
   have HB3 := hid hb3
   have HP3 := hid hp3
   have HS3 := hid hs3
   clear h3 hp3 hs3 hb3 hcn x1
   go_wp2_with fail
   refine HG3.out.mono ?_
   rintro e w4 ⟨SA4, Sc4, es4, PA4, Pc4, ps4, RA4, Rc4, rfl, hg4, hb4⟩
   have hb4x := HB3.out.below hb4 hlt3
   have x4 := hb4x.cell 3
   simp at x4
   have hlt4 := hb4x.lt
   obtain ⟨ms, hms⟩ := gT_pts T (qs.map (·.s))
   have hpl : P ≤ ps4.length := by
    have h := congrArg List.length hg4.ptsp
    rw [hms, List.length_map, List.length_append, HP.out] at h
    omega
   have hpl2 : ps4.length ≤ 92160000 := by
    have h := congrArg List.length hg4.ptsp
    rw [List.length_map] at h
    have := HTD.out.cnts.1
    omega
   have hdm : (ps4.drop P).map (·.p) = ms := by
    rw [List.map_drop, hg4.ptsp, hms, ← HP.out, List.drop_left]
   obtain ⟨-, hc41, hc42⟩ := (ERow.of_own hg4.pts.1).len
   have HDL := hid (show (ps4.drop P).length = ps4.length - P from List.length_drop)
   have HPC := hid (fun A' (hA : Pc4 = P ∨ A' = PA4.map (fun x => x.add (P * 2))) => pclone_any w4 A' (Pc4 - P) (ps4.length - P) (flatN (ps4.drop P)) (by
    have h := (hg4.pts.row.drop hpl hA).1
    rwa [List.length_drop] at h) (oneN _) (by rw [flatN_length, List.length_drop]) (by omega))
   have HG4 := hid hg4
   have HB4 := hid hb4
   have HX4 := hid hb4x
   have HMS := hid hms
   have HDM := hid hdm
   have pi : (P : Int) ≤ (ps4.length : Int) := by omega
   have pi1 : (ps4.length : Int) ≤ (Pc4 : Int) := by omega
   have fin : ∀ (C2 : Option Addr) (c2 : Nat) (w5 : World), w5.ownsRow w4.heap.size 55 2 (.slice C2 (ps4.length - P) c2) (ps4.length - P) (flatN (ps4.drop P)) → Below w4.heap.size w4 w5 →
     ∃ A c qs' m SA Sc es PA' Pc ps RA' Rc, Ending.returned (.slice C2 (ps4.length - P) c2) = .returned (.slice A (qs' : List Pm).length c) ∧ w.heap.size ≤ m ∧ OwnT (w5.setCell ⟨s, 3, none⟩ (.int .i64 ps4.length)) m (.slice A qs'.length c) qs' ∧ (gT (T ++ qs.map (·.s))).pts = (gT T).pts ++ qs'.map (·.p) ∧
      KAt (w5.setCell ⟨s, 3, none⟩ (.int .i64 ps4.length)) n s f t (T ++ qs.map (·.s)) SA Sc es PA' Pc ps RA' Rc ∧ PartN (KS s t PA RA) w (w5.setCell ⟨s, 3, none⟩ (.int .i64 ps4.length)) ∧ (∀ j, TS t PA' RA' j → TS t PA RA j ∨ w.heap.size ≤ j) ∧ ∀ j, TS t PA' RA' j → j < m := by
    intro C2 c2 w5 hown hb5
    have hz3 : w.heap.size ≤ w3.heap.size := Nat.le_trans HPR.out.size HP3.out.size
    have hz4 := HB4.out.size
    have hx5 := HX4.out.below hb5 HX4.out.lt
    have hg5 := HG4.out.below hb5
    have ho5 : OwnT w5 w3.heap.size (.slice C2 (ps4.drop P).length c2) (ps4.drop P) := ⟨by rw [HDL.out]; exact own_base hown hz4, fun d hd => hg5.pts.2 d (List.mem_of_mem_drop hd)⟩
    have ht5 := (HH3.out.below HB4.out).below hb5
    have hpp : PartN (KS s t PA RA) w w5 := (((hp0.trans (HP3.out.more (fun j e => .inr e))).trans (PartN.of_below HB4.out)).trans (PartN.of_below hb5))
    have gr := grown_put w5 s 3 (.int .i64 ps4.length)
    refine ⟨C2, c2, ps4.drop P, w3.heap.size, _, _, _, _, _, _, _, _, by rw [HDL.out], hz3, ?_, by rw [HDM.out]; exact HMS.out, ⟨?_, HK.out.low, ht5.sput hx5 3 _⟩, hpp.trans (PartN.put (.inl rfl) 3 _), fun j hj => ?_, fun j hj => (HH3.out.lt hj).2⟩
    ·exact ho5.nott (NotT.of_held hx5 (by decide)) (NotT.of_held hx5 (by decide)) ((NotT.of_held hx5 (by decide)).ne ho5.1) gr
    ·have h := hx5.put 3 (.int .i64 ps4.length)
     rw [show (gT (T ++ qs.map (·.s))).pts.length = ps4.length by rw [← HG4.out.ptsp, List.length_map]]
     simpa using h
    ·rcases HS3.out j hj with h | h
     ·exact .inl h
     ·exact .inr (Nat.le_trans HPR.out.size h)
   have FIN := hid fin
   clear hg4 hb4 hb4x hms hdm fin hp0 hwx
   rcases (show P = Pc4 ∨ ¬ Pc4 = P by omega) with rfl | hcp
   ·have hpp : ps4.length = P := by omega
    have HC := hid (HPC.out PA4 (.inl rfl))
    obtain ⟨N4, hN4⟩ : ∃ N4, ps4.length = N4 := ⟨_, rfl⟩
    unfold GW
    have hfld := run_field19
    rw [hN4] at HC FIN pi pi1 hpl hpl2 hpp ⊢
    subst hpp
    rw [Nat.sub_self] at HC FIN
    clear hN4
    go_wp2_with fail
    refine HC.out.mono ?_
    rintro e w5 ⟨C2, c2, rfl, hown, hb5⟩
    have x5 := (HX4.out.below hb5 HX4.out.lt).frozen 3
    have y5 := (HX4.out.below hb5 HX4.out.lt).cell 3
    simp at y5
    have hlt5 := (HX4.out.below hb5 HX4.out.lt).lt
    have HO5 := hid hown
    have HB5 := hid hb5
    clear hown hb5
    go_wp2_with fail
    go_ret
    exact FIN.out C2 c2 w5 HO5.out HB5.out
   ·have HC := hid (HPC.out _ (.inr rfl))
    obtain ⟨N4, hN4⟩ : ∃ N4, ps4.length = N4 := ⟨_, rfl⟩
    unfold GW
    have hfld := run_field19
    rw [hN4] at HC FIN pi pi1 hpl hpl2 ⊢
    clear hN4
    go_wp2_with fail
    refine HC.out.mono ?_
    rintro e w5 ⟨C2, c2, rfl, hown, hb5⟩
    have x5 := (HX4.out.below hb5 HX4.out.lt).frozen 3
    have y5 := (HX4.out.below hb5 HX4.out.lt).cell 3
    simp at y5
    have hlt5 := (HX4.out.below hb5 HX4.out.lt).lt
    have HO5 := hid hown
    have HB5 := hid hb5
    clear hown hb5
    go_wp2_with fail
    go_ret
    exact FIN.out C2 c2 w5 HO5.out HB5.out
end
section
variable {w w' w1 : World} {S : Nat → Prop} {n s f t k m : Nat} {xs : List Int} {T : List Sg} {PA RA PA' RA' : Option Addr} {v : Value} {qs : List Pm}
theorem OwnT.notin (h : OwnT w k v qs) (hp : PartN S w w') (h1 : NotS w S 135) (h2 : NotS w S 91) (h3 : ∀ j, v.ownBlock = some j → ¬ S j) : OwnT w' k v qs := by
 refine ⟨⟨h.1.1, ?_⟩, fun d hd => ⟨(h.2 d hd).1.nots hp h1 h2, (h.2 d hd).2⟩⟩
 rcases h.1.2 with h4 | ⟨g, cap, cur, q1, q2, q3, r⟩
 ·exact .inl h4
 ·exact .inr ⟨g, cap, cur, q1, q2, (hp.block g (Array.getElem?_eq_some_iff.1 q3).1 (h3 g (by rw [q1]; rfl))).trans q3, r⟩
def StrAt (w : World) (n s f t : Nat) (xs : List Int) (T : List Sg) (PA RA : Option Addr) : Prop :=
 ∃ vh a o SA Sc es Pc ps Rc, n ≤ f ∧ Fed w n f vh xs T a o ∧ KAt w n s f t T SA Sc es PA Pc ps RA Rc
structure SKeeps (w w' : World) (n t m : Nat) (PA RA PA' RA' : Option Addr) : Prop where
 low : Below n w w'
 own : ∀ k v qs, OwnT w k v qs → (∀ j, v.ownBlock = some j → ¬ TS t PA RA j) → OwnT w' k v qs
 turn : ∀ j, TS t PA' RA' j → TS t PA RA j ∨ w.heap.size ≤ j
 lt : ∀ j, TS t PA' RA' j → j < m
def SGiven (w : World) (n s f t : Nat) (xs : List Int) (T : List Sg) (PA RA : Option Addr) (e : Ending) (w' : World) : Prop :=
 ∃ A c qs m D PA' RA', e = .returned (.tuple #[.slice A (qs : List Pm).length c, .int .i64 0]) ∧ w.heap.size ≤ m ∧ OwnT w' m (.slice A qs.length c) qs ∧ (gT (T ++ D)).pts = (gT T).pts ++ qs.map (·.p) ∧
  StrAt w' n s f t xs (T ++ D) PA' RA' ∧ SKeeps w w' n t m PA RA PA' RA'
def SClosed (w : World) (n s f t : Nat) (xs : List Int) (T : List Sg) (PA RA : Option Addr) (e : Ending) (w' : World) : Prop :=
 ∃ A c qs m D SA Sc es PA' Pc ps RA' Rc, e = .returned (.tuple #[.slice A (qs : List Pm).length c, .int .i64 0]) ∧ w.heap.size ≤ m ∧ OwnT w' m (.slice A qs.length c) qs ∧ (gT (T ++ D)).pts = (gT T).pts ++ qs.map (·.p) ∧
  KAt w' n s f t (T ++ D) SA Sc es PA' Pc ps RA' Rc ∧ PartsS xs 0 (T ++ D) ∧ SKeeps w w' n t m PA RA PA' RA'
theorem fed_s {vh : Value} {a o : Nat} (hf : Fed w n f vh xs T a o) (e : TypeId) (h1 : 146 ≠ e) (h2 : 5 ≠ e) : NotS w (fun j => j = f ∨ vh.ownBlock = some j) e :=
 NotS.two (NotT.of_held hf.1 h1) (NotT.of_own hf.2.1 h2)
theorem KAt.fed {SA : Option Addr} {Sc : Nat} {es : List Pd} {Pc : Nat} {ps : List Pm} {Rc : Nat} {vh : Value} {a o : Nat} {ys : List Int} {T' : List Sg} (h : KAt w n s f t T SA Sc es PA Pc ps RA Rc) (hf : Fed w n f vh ys T' a o) (hb : But w w' vh.ownBlock f) : KAt w' n s f t T SA Sc es PA Pc ps RA Rc :=
 h.nots (PartN.of_but hb) (fun e he => fed_s hf e (by rcases he with rfl | rfl | rfl | rfl | rfl | rfl | rfl <;> decide) (by rcases he with rfl | rfl | rfl | rfl | rfl | rfl | rfl <;> decide)) (fed_s hf _ (by decide) (by decide))
theorem SKeeps.two {SA : Option Addr} {Sc : Nat} {es : List Pd} {Pc : Nat} {ps : List Pm} {Rc : Nat} {vh : Value} {a o : Nat} {ys : List Int} {T' : List Sg} (h : KAt w n s f t T SA Sc es PA Pc ps RA Rc) (hf : Fed w n f vh ys T' a o) (hb : But w w1 vh.ownBlock f)
  (hnf : n ≤ f) (h1 : KAt w1 n s f t T SA Sc es PA Pc ps RA Rc) (hp : PartN (KS s t PA RA) w1 w') (ht : ∀ j, TS t PA' RA' j → TS t PA RA j ∨ w1.heap.size ≤ j) (hm : ∀ j, TS t PA' RA' j → j < m) : SKeeps w w' n t m PA RA PA' RA' := by
 refine ⟨?_, fun k v qs ho hv => ?_, fun j hj => (ht j hj).imp id (fun e => Nat.le_trans hb.size e), hm⟩
 ·have hn : n ≤ w.heap.size := by have := h.low; have := h.box.lt; omega
  refine (PartN.low (PartN.of_but hb) hn (fun i hi e => ?_)).trans (PartN.low hp (Nat.le_trans hn hb.size) (fun i hi e => ?_))
  ·rcases e with e | e
   ·omega
   ·have := (World.ownsRow.lt hf.2.1 i e).1; omega
  ·have := (h1.lt e).1; omega
 ·have h2 : OwnT w1 k v qs := ho.nots (PartN.of_but hb) (fed_s hf _ (by decide) (by decide)) (fed_s hf _ (by decide) (by decide)) (fed_s hf _ (by decide) (by decide))
  refine h2.notin hp (h1.notS _ (by decide) (by decide) (by decide) (by decide)) (h1.notS _ (by decide) (by decide) (by decide) (by decide)) (fun j hj e => ?_)
  rcases e with rfl | e
  ·rcases (NotT.of_held (e := 55) h1.box (by decide)).ne h2.1 with e2 | e2
   ·rw [e2] at hj; cases hj
   ·exact e2 hj
  ·exact hv j hj e
end
section
variable {w : World} {n s f t : Nat} {xs : List Int} {T : List Sg} {PA RA : Option Addr}
theorem sgive_any (h : StrAt w n s f t xs T PA RA) (hbx : ∀ x ∈ xs, 0 ≤ x ∧ x < 256) (A : Option Addr) (c : Nat) (ys : List Int) (hby : ∀ y ∈ ys, 0 ≤ y ∧ y < 256) (hrow : Row w w.heap.size (.slice A ys.length c) ys) (hsm : (xs ++ ys).length ≤ 90000) :
  Calls Tryz.prog 23 #[.pointer (some ⟨s, 0, none⟩), .slice A ys.length c] w (SGiven w n s f t (xs ++ ys) T PA RA) := by
 obtain ⟨vh, a, o, SA, Sc, es, Pc, ps, Rc, hnf, hf, hk⟩ := h
 have hn : n ≤ w.heap.size := by have := hk.low; have := hk.box.lt; omega
 have HG := hid (give_any w n f vh xs T a o hf hbx hn A c ys hby hrow (by omega))
 have hbxy : ∀ x ∈ xs ++ ys, 0 ≤ x ∧ x < 256 := fun x hx => (List.mem_append.1 hx).elim (hbx x) (hby x)
 have HXY := hid hbxy
 have HSM := hid hsm
 have x0 := hk.box.cell 0
 simp at x0
 have hlt := hk.box.lt
 have HF := hid hf
 have HK := hid hk
 clear hf hk hbx hbxy hrow hsm hby
 unfold SGiven
 go_enter Tryz.func23, Tryz.ntmps23
 go_wp2_with fail
 refine HG.out.mono ?_
 rintro e w1 ⟨v1, qs, vh1, a1, o1, rfl, hs1, hnp1, hfd1, hbut1, -, -, -⟩
 obtain ⟨A1, c1, rfl, -, -⟩ := hs1.form
 have hk1 := HK.out.fed HF.out hbut1
 have HN := hid (news_any hk1 qs A1 c1 w.heap.size hs1 hnp1 (fun j hj => (HK.out.lt hj).2) (TdOk.fd HXY.out HSM.out hfd1.2.2))
 have HK1 := hid hk1
 have HF1 := hid hfd1
 have HB1 := hid hbut1
 clear hs1 hnp1 hfd1 hbut1 hk1
 go_wp2_with fail
 refine HN.out.mono ?_
 rintro e w2 ⟨A2, c2, ps2, m, SA2, Sc2, es2, PA2, Pc2, qs2, RA2, Rc2, rfl, hm, ho2, hpts, hk2, hp2, ht2, hlt2⟩
 have HO2 := hid ho2
 have HP2 := hid hp2
 have HK2 := hid hk2
 have HT2 := hid ht2
 have HL2 := hid hlt2
 have HPT := hid hpts
 clear ho2 hp2 hk2 ht2 hlt2 hpts
 go_wp2_with fail
 go_ret2
 refine ⟨A2, c2, ps2, m, qs.map (·.s), PA2, RA2, rfl, Nat.le_trans HB1.out.size hm, HO2.out, HPT.out, ⟨vh1, a1, o1, SA2, Sc2, es2, Pc2, qs2, Rc2, hnf, ⟨HF1.out.1.nots HP2.out ?_, own_nots HF1.out.2.1 HP2.out ?_, HF1.out.2.2⟩, HK2.out⟩, SKeeps.two HK.out HF.out HB1.out hnf HK1.out HP2.out HT2.out HL2.out⟩
 ·exact HK1.out.notS _ (by decide) (by decide) (by decide) (by decide)
 ·exact HK1.out.notS _ (by decide) (by decide) (by decide) (by decide)
theorem sclose_any (h : StrAt w n s f t xs T PA RA) (hbx : ∀ x ∈ xs, 0 ≤ x ∧ x < 256) (hsm : xs.length ≤ 90000) :
  Calls Tryz.prog 24 #[.pointer (some ⟨s, 0, none⟩)] w (SClosed w n s f t xs T PA RA) := by
 obtain ⟨vh, a, o, SA, Sc, es, Pc, ps, Rc, hnf, hf, hk⟩ := h
 have hn : n ≤ w.heap.size := by have := hk.low; have := hk.box.lt; omega
 have HG := hid (close_any w n f vh xs T a o hf hbx hn (by omega))
 have HX := hid hbx
 have HSM := hid hsm
 have x0 := hk.box.cell 0
 simp at x0
 have hlt := hk.box.lt
 have HF := hid hf
 have HK := hid hk
 clear hf hk hbx hsm
 unfold SClosed
 go_enter Tryz.func24, Tryz.ntmps24
 go_wp2_with fail
 refine HG.out.mono ?_
 rintro e w1 ⟨v1, qs, vh1, a1, rfl, hs1, hnp1, hps1, -, -, hbut1, -, -, -⟩
 obtain ⟨A1, c1, rfl, -, -⟩ := hs1.form
 have hk1 := HK.out.fed HF.out hbut1
 have HN := hid (news_any hk1 qs A1 c1 w.heap.size hs1 hnp1 (fun j hj => (HK.out.lt hj).2) (TdOk.parts HX.out HSM.out hps1))
 have HK1 := hid hk1
 have HPS := hid hps1
 have HB1 := hid hbut1
 clear hs1 hnp1 hps1 hbut1 hk1
 go_wp2_with fail
 refine HN.out.mono ?_
 rintro e w2 ⟨A2, c2, ps2, m, SA2, Sc2, es2, PA2, Pc2, qs2, RA2, Rc2, rfl, hm, ho2, hpts, hk2, hp2, ht2, hlt2⟩
 have HO2 := hid ho2
 have HP2 := hid hp2
 have HK2 := hid hk2
 have HT2 := hid ht2
 have HL2 := hid hlt2
 have HPT := hid hpts
 clear ho2 hp2 hk2 ht2 hlt2 hpts
 go_wp2_with fail
 go_ret2
 exact ⟨A2, c2, ps2, m, qs.map (·.s), SA2, Sc2, es2, PA2, Pc2, qs2, RA2, Rc2, rfl, Nat.le_trans HB1.out.size hm, HO2.out, HPT.out, HK2.out, HPS.out, SKeeps.two HK.out HF.out HB1.out hnf HK1.out HP2.out HT2.out HL2.out⟩
end
theorem ints_of_arg {w : World} {a : Option Addr} {len cap : Nat} {zs : List Int} (h : IsRow .i64 w a len cap zs) :
  ∃ us : List Int, us.length = len ∧ IRow w w.heap.size (.slice a len cap) us := by
 rcases h with ⟨rfl, rfl, rfl, rfl⟩ | ⟨x, rfl, hl, hm, hz, hc, hw⟩
 ·exact ⟨[], rfl, VRow.nil _ _⟩
 ·have hlen : (zs.take len).length = len := by rw [List.length_take]; omega
  refine ⟨zs.take len, hlen, ⟨some x, cap, by rw [List.length_map, hlen], by rw [List.length_map, hlen]; exact hl, hm, by simp, fun hn => ?_⟩⟩
  rw [List.length_map, hlen] at hn
  obtain ⟨b, o, sp⟩ := x
  have h0 := hc 0 (by omega)
  have hs : sp = none := by simpa [Addr.add] using World.cell?_spot h0
  subst hs
  refine ⟨b, o, rfl, World.block_lt_of_cell? w ⟨b, o, none⟩ (by simpa [Addr.add] using h0), fun i u hi => ?_⟩
  have hlt := (List.getElem?_eq_some_iff.1 hi).1
  rw [List.length_map, hlen] at hlt
  have hi' := hc i (by omega)
  rw [Go.WideShapes.add_plain] at hi'
  rw [hi']
  rw [List.getElem?_map, List.getElem?_take, if_pos hlt, List.getElem?_eq_getElem (by omega)] at hi
  simp only [Option.map_some, Option.some.injEq] at hi
  rw [← hi, List.getD, List.getElem?_eq_getElem (by omega)]
  rfl
theorem step_append_guarded {P : Program} {w : World} {ops : Array Oper} {o : Oper} {a : Act} {K : Act → World → Prop} {Q : Exit → Act → World → Prop} {E : Prop} (hw : Region.wanted o (yielded ops a.tmps) = true) (s x : Operand) (t e : TypeId) (ho : o.op = .call { callee := .builtin .append, args := #[s, x], argTypes := #[t, t] })
  (base : Nat) (i : TypeInfo) (z : Value) (size bytes : Nat) (ht : P.underlying t = some (.slice e)) (hi : P.info? e = some i) (hz : i.zero = some z) (hsize : i.size = size) (hby : i.bytes = bytes) (hzs : z.cells.size = size) (hsz : 0 < size)
  (v : Value) (n : Nat) (xs : List Value) (hs : a.eval s = v) (hown : w.ownsRow base e size v n xs) (B : Nat) (sv : Value) (m : Nat) (us : List Value) (hx : a.eval x = sv) (hr : ERow w B sv m us) (hl : us.length = m * size) (h1 : ∀ u ∈ us, u.oneCell' = true)
  (h63 : n + m ≤ maxLen) (hbytes : (n + m) * bytes ≤ 140737488355328) (hbase : base ≤ w.heap.size) (N : Nat) (hN : n + m = N) (ys : List Value) (hys : xs ++ us = ys)
  (h : ∀ A c w', w'.ownsRow base e size (.slice A N c) N ys → w.grownBy w' v.ownBlock → K (a.put o.dst (.slice A N c)) w') : if Region.wanted o (yielded ops a.tmps) = true then Oper.wp P o a w K Q else E := by
 subst hN hys
 obtain ⟨v', w', hrun, h2, h3⟩ := run_append_erow (P := P) w base t o.type e i z size bytes ht hi hz hsize hby hzs hsz v n xs hown B sv m us hr hl h1 h63 hbytes hbase
 obtain ⟨A, c, rfl⟩ := own_form h2
 rw [if_pos hw]
 unfold Oper.wp execOp
 simp only [ho, resolve, invoke, builtin, Sem.run_bind, Sem.run_pure, Result.andThen_ok, List.map_toArray, List.map_cons, List.map_nil, hs, hx, hrun]
 exact h A c w' h2 h3
def CuRow (W : World) (N : Nat) (v : Value) (cs : List Cu) : Prop := ERow W N v cs.length (cuVs cs) ∧ ∀ x ∈ cs, Row W N x.val x.b
section
variable {w w' : World} {N n : Nat} {v : Value} {cs : List Cu}
theorem OwnC.row (h : OwnC w n v cs) : CuRow w w.heap.size v cs := ⟨ERow.of_own h.1, fun x hx => Row.of_own (h.2 x hx)⟩
theorem CuRow.below (h : CuRow w N v cs) (hb : Below N w w') : CuRow w' N v cs := ⟨h.1.below hb, fun x hx => (h.2 x hx).below hb⟩
theorem CuRow.at {A : Option Addr} {m c : Nat} (h : CuRow w N (.slice A m c) cs) {i : Nat} {x : Cu} (hx : cs[i]? = some x) : ∃ b o, A = some ⟨b, o, none⟩ ∧ b < N ∧ w.cell? ⟨b, o + i, none⟩ = some x.val := by
 obtain ⟨b, o, e, hb, hc⟩ := h.1.block (by have := (List.getElem?_eq_some_iff.1 hx).1; omega)
 exact ⟨b, o, e, hb, hc i _ (cuVs_at hx)⟩
end
theorem own_rowp {w w' : World} {n : Nat} {r : Option Nat} {u : Value} {qs : List Pm} (h : OwnT w n u qs) (h1 : NotT w r 135) (h2 : NotT w r 91) (h3 : ∀ j, r = some j → j < n) (hg : w.grownBy w' r) : OwnT w' n u qs := by
 refine h.nott h1 h2 ?_ hg
 rcases h.1.2 with ⟨rfl, _⟩ | ⟨g, cap, cur, rfl, hb, _⟩
 ·exact .inl rfl
 ·refine .inr fun e => ?_
  have := h3 g e.symm
  omega
section
variable {w w' : World} {N n s f t k : Nat} {xs : List Int} {T : List Sg} {PA RA : Option Addr} {v : Value} {us : List Value}
theorem StrAt.below (h : StrAt w n s f t xs T PA RA) (hb : Below w.heap.size w w') : StrAt w' n s f t xs T PA RA := by
 obtain ⟨vh, a, o, SA, Sc, es, Pc, ps, Rc, hnf, hf, hk⟩ := h
 exact ⟨vh, a, o, SA, Sc, es, Pc, ps, Rc, hnf, ⟨hf.1.below hb hf.1.lt, own_below hf.2.1 hb, hf.2.2⟩, hk.below hb⟩
theorem StrAt.ts_lt (h : StrAt w n s f t xs T PA RA) {j : Nat} (hj : TS t PA RA j) : n ≤ j ∧ j < w.heap.size := by
 obtain ⟨vh, a, o, SA, Sc, es, Pc, ps, Rc, hnf, hf, hk⟩ := h
 exact hk.tak.lt hj
theorem StrAt.size (h : StrAt w n s f t xs T PA RA) : n ≤ w.heap.size := by
 obtain ⟨vh, a, o, SA, Sc, es, Pc, ps, Rc, hnf, hf, hk⟩ := h
 exact hk.tak.size
theorem StrAt.grown (h : StrAt w n s f t xs T PA RA) (ho : w.ownsRow N 55 2 v k us) (hna : ∀ j, v.ownBlock = some j → ¬ TS t PA RA j) (hg : w.grownBy w' v.ownBlock) : StrAt w' n s f t xs T PA RA := by
 obtain ⟨vh, a, o, SA, Sc, es, Pc, ps, Rc, hnf, hf, hk⟩ := h
 have nt : ∀ e, 55 ≠ e → NotT w v.ownBlock e := fun e he => NotT.of_own ho he
 have ht := hk.tak
 refine ⟨vh, a, o, SA, Sc, es, Pc, ps, Rc, hnf, ⟨hf.1.nott (nt _ (by decide)) hg, own_nott hf.2.1 (nt _ (by decide)) hg, hf.2.2⟩, hk.box.nott (nt _ (by decide)) hg, hk.low,
  ht.held.nott (nt _ (by decide)) hg, ht.low, ht.sig.nott (nt _ (by decide)) (nt _ (by decide)) hg, ht.sigp, ht.pts.nott (nt _ (by decide)) (nt _ (by decide)) ?_ hg, ht.ptsp, own_nott ht.rej (nt _ (by decide)) hg⟩
 rw [ob_own]
 cases hP : ob PA with
 | none => exact .inl rfl
 | some j => exact .inr fun e => hna j e.symm (.inr (.inl hP))
end
open Go.RowKit
theorem ssure_any {w : World} {s f t : Nat} {a b : Int} (h : SBox w s f t a b) :
  Calls Tryz.prog 45 #[.pointer (some ⟨s, 0, none⟩)] w fun e w' => e = .returned (.int .i64 a) ∧ w = w' := by
 have hg := h.lt
 have x0 := h.cell 2
 simp at x0
 go_enter Tryz.func45, Tryz.ntmps45
 go_wp2_with fail
 go_ret
 exact ⟨rfl, rfl⟩
theorem parts_frames : ∀ (L : List (Int × List Int)) (pre : List Int), (∀ f ∈ L, Fit f) → ∃ l, PartsS (pre ++ catFr L) pre.length l ∧ l.map (fun s => (s.isf, s.kind, s.pay)) = L.map (fun f => (true, f.1, f.2))
 | [], pre, _ => ⟨[], .stop _ (by simp [catFr]), rfl⟩
 | f :: L, pre, h => by
  obtain ⟨h1, h2⟩ := h f (List.mem_cons_self ..)
  have hd : (pre ++ catFr (f :: L)).drop pre.length = encFr f.1 f.2 ++ catFr L := by simp [catFr]
  have hg := getFr_enc h1 h2 (catFr L)
  have hb : Begins (pre ++ catFr (f :: L)) pre.length := by unfold Begins; rw [hd, hg]
  have hs : frS (pre ++ catFr (f :: L)) pre.length = ⟨pre.length, (encFr f.1 f.2).length, true, f.1, f.2⟩ := by unfold frS; rw [hd, hg]
  have e9 := encFr_pos f.1 f.2
  obtain ⟨l, hl, hm⟩ := parts_frames L (pre ++ encFr f.1 f.2) (fun g hg => h g (List.mem_cons_of_mem _ hg))
  have hx : pre ++ catFr (f :: L) = (pre ++ encFr f.1 f.2) ++ catFr L := by simp [catFr]
  have hn : (getFr ((pre ++ catFr (f :: L)).drop pre.length)).2.1 = (encFr f.1 f.2).length := by rw [hd, hg]
  refine ⟨frS (pre ++ catFr (f :: L)) pre.length :: l, .fr _ _ ?_ hb ?_, ?_⟩
  ·rw [hx]; simp only [List.length_append]; omega
  ·rw [hn, hx]
   rw [List.length_append] at hl
   exact hl
  ·rw [hs, List.map_cons, List.map_cons, hm]
theorem takeS_ok {g g' : Gp} {s : Sj} (h1 : s.isf = true) (h : frameG g s.kind s.pay = (g', 0)) : takeS g s = ⟨g'.sig, g'.isg, g'.pts, g.sk, g.fr + 1, g.rej⟩ := by
 unfold takeS
 rw [if_neg (by rw [h1]; decide), h, if_neg (fun x => x rfl)]
theorem frameG_first {g : Gp} {l : List Pr} (h : checkP l = 0) (hg : g.isg = false) : frameG g 1 (encS l) = (⟨l, true, g.pts, g.sk, g.fr, g.rej⟩, 0) := by
 unfold frameG
 rw [if_pos rfl, getSig_enc h, if_neg (fun x => x rfl), if_neg (fun x => by rw [hg] at x; cases x.1)]
theorem frameG_block {g : Gp} {b : List Pm} (hg : g.isg = true) (hB : BOk b) (hp : (putB g.sig b).2 = 0) (hl : lateG g.pts (b.map (·.p)) = false) : frameG g 2 (payB b) = (⟨g.sig, g.isg, g.pts ++ b.map (·.p), g.sk, g.fr, g.rej⟩, 0) := by
 unfold frameG
 rw [if_neg (by decide), if_neg (by decide), if_neg (by rw [hg]; decide), getU_there hB hp, if_neg (fun x => x rfl), if_neg (by rw [hl]; decide)]
theorem late_of {sig : List Pr} {t : List Pn} {m r : List Pn} (h : (checkT sig (t ++ (m ++ r))).1 = 0) (hm : 0 < m.length) : lateG t m = false := by
 unfold lateG
 by_cases ht : 0 < t.length
 ·obtain ⟨-, hw⟩ := checkT_zero.1 h
  have := hw t.length (by simp only [List.length_append]; omega)
  unfold whyT at this
  have e1 : (t ++ (m ++ r)).getD t.length default = m.getD 0 default := by
   simp only [List.getD]
   rw [List.getElem?_append_right (Nat.le_refl _), Nat.sub_self, List.getElem?_append_left hm]
  have e2 : (t ++ (m ++ r)).getD (t.length - 1) default = t.getD (t.length - 1) default := by
   simp only [List.getD]
   rw [List.getElem?_append_left (by omega)]
  rw [e1, e2] at this
  split at this
  ·cases this
  ·rename_i hn
   rw [decide_eq_true ht, Bool.true_and]
   exact decide_eq_false (fun x => hn ⟨ht, x⟩)
 ·rw [decide_eq_false ht, Bool.false_and]
theorem takeL_blocks {sig : List Pr} : ∀ (L : List (List Pm)) (l : List Sj) (T : List Pn) (n : Int), l.map (fun s => (s.isf, s.kind, s.pay)) = L.map (fun b => (true, (2 : Int), payB b)) → (∀ b ∈ L, BOk b ∧ 0 < b.length ∧ (putB sig b).2 = 0) →
  (checkT sig (T ++ L.flatten.map (·.p))).1 = 0 → takeL ⟨sig, true, T, 0, n, []⟩ l = ⟨sig, true, T ++ L.flatten.map (·.p), 0, n + L.length, []⟩
 | [], l, T, n, h, _, _ => by
  rw [List.map_nil, List.map_eq_nil_iff] at h
  subst h
  simp [takeL]
 | b :: L, [], T, n, h, _, _ => by simp at h
 | b :: L, s :: l, T, n, h, hb, hc => by
  simp only [List.map_cons, List.cons.injEq, Prod.mk.injEq] at h
  obtain ⟨⟨e1, e2, e3⟩, h⟩ := h
  obtain ⟨b1, b2, b3⟩ := hb b (List.mem_cons_self ..)
  have hc2 : (checkT sig (T ++ (b.map (·.p) ++ L.flatten.map (·.p)))).1 = 0 := by rw [List.flatten_cons, List.map_append] at hc; exact hc
  have hl := late_of hc2 (by rw [List.length_map]; exact b2)
  have ht : takeS ⟨sig, true, T, 0, n, []⟩ s = ⟨sig, true, T ++ b.map (·.p), 0, n + 1, []⟩ := takeS_ok (g := ⟨sig, true, T, 0, n, []⟩) (g' := ⟨sig, true, T ++ b.map (·.p), 0, n, []⟩) e1 (by rw [e2, e3]; exact frameG_block (g := ⟨sig, true, T, 0, n, []⟩) rfl b1 b3 hl)
  show takeL (takeS ⟨sig, true, T, 0, n, []⟩ s) l = _
  rw [ht, takeL_blocks L l (T ++ b.map (·.p)) (n + 1) h (fun x hx => hb x (List.mem_cons_of_mem _ hx)) (by rw [List.append_assoc]; exact hc2)]
  simp only [List.flatten_cons, List.map_append, List.append_assoc, List.length_cons, Gp.mk.injEq, true_and, and_true]
  omega
def catW (sig : List Pr) (L : List (List Pm)) : List (Int × List Int) := (1, encS sig) :: L.map (fun b => (2, payB b))
theorem catW_bytes {sig : List Pr} {L : List (List Pm)} (hs : checkP sig = 0) (hb : ∀ b ∈ L, (putB sig b).2 = 0) : catFr (catW sig L) = ((frameS sig).1 :: L.map (frB sig)).flatten := by
 have h2 : ∀ L : List (List Pm), (∀ b ∈ L, (putB sig b).2 = 0) → catFr (L.map (fun b => ((2 : Int), payB b))) = (L.map (frB sig)).flatten := by
  intro L
  induction L with
  | nil => intro _; rfl
  | cons b L ih =>
   intro hb
   have h0 := hb b (List.mem_cons_self ..)
   have e : frB sig b = encFr 2 (payB b) := by
    unfold frB frameB
    rw [if_pos h0, (putB_ok h0).2.2]
   rw [List.map_cons, catFr, ih (fun x hx => hb x (List.mem_cons_of_mem _ hx)), List.map_cons, List.flatten_cons, e]
 have e1 : (frameS sig).1 = encFr 1 (encS sig) := by unfold frameS; rw [if_pos hs]
 rw [catW, catFr, h2 L hb, List.flatten_cons, e1]
theorem back_plain {sig : List Pr} {L : List (List Pm)} {g : Gp} {l : List Sg} (hs : checkP sig = 0) (hb : ∀ b ∈ L, BOk b ∧ 0 < b.length ∧ (putB sig b).2 = 0) (hc : (checkT sig (L.flatten.map (·.p))).1 = 0)
  (hl : PartsS ((frameS sig).1 :: L.map (frB sig)).flatten 0 l) (hg : g = takeL noG (l.map sgK)) : g = ⟨sig, true, L.flatten.map (·.p), 0, 1 + L.length, []⟩ := by
 have hfit : ∀ f ∈ catW sig L, Fit f := by
  intro f hf
  rcases List.mem_cons.1 hf with rfl | hf
  ·exact ⟨.inl rfl, Nat.le_trans (encS_le hs).2 (by omega)⟩
  ·obtain ⟨b, hb2, rfl⟩ := List.mem_map.1 hf
   exact ⟨.inr rfl, (putB_ok (hb b hb2).2.2).2.1⟩
 obtain ⟨l2, h1, h2⟩ := parts_frames (catW sig L) [] hfit
 rw [List.nil_append, catW_bytes hs (fun b h => (hb b h).2.2)] at h1
 have e := hl.same h1
 subst e
 rw [hg]
 unfold catW at h2
 rcases l with _ | ⟨s, l⟩
 ·simp at h2
 ·simp only [List.map_cons, List.cons.injEq, Prod.mk.injEq, List.map_map] at h2
  obtain ⟨⟨e1, e2, e3⟩, h2⟩ := h2
  have ht : takeS noG (sgK s) = ⟨sig, true, [], 0, 1, []⟩ := takeS_ok (g := noG) (s := sgK s) (g' := ⟨sig, true, [], 0, 0, []⟩) e1 (by
   have h3 := frameG_first (g := noG) hs rfl
   show frameG noG s.kind s.pay = _
   rw [e2, e3, h3]
   rfl)
  show takeL (takeS noG (sgK s)) (l.map sgK) = _
  rw [ht]
  have h4 := takeL_blocks (sig := sig) L (l.map sgK) [] 1 (by rw [List.map_map]; exact h2) hb (by rw [List.nil_append]; exact hc)
  rw [h4, List.nil_append]
section
variable {w : World} {n g c kc : Nat} {A KA : Option Addr} {ds : List Pd} {most : Int} {bg cl : Bool} {bs : List Bk}
theorem WAt.cells (h : WAt w n g A c ds most bg cl KA kc bs) : w.cell? ⟨g, 0, none⟩ = some (.slice A ds.length c) ∧ w.cell? ⟨g, 1, none⟩ = some (.int .i64 most) ∧ w.cell? ⟨g, 2, none⟩ = some (.bool bg) ∧
  w.cell? ⟨g, 3, none⟩ = some (.slice KA bs.length kc) ∧ w.cell? ⟨g, 4, none⟩ = some (.bool cl) := by
 obtain ⟨h0, h1, h2, h3, h4⟩ := cC5 h.held
 simp at h0 h1 h2 h3 h4
 exact ⟨h0, h1, h2, h3, h4⟩
theorem wframes_any (w : World) (p : Option Addr) (q : Int) : Calls Tryz.prog 152 #[.pointer p, .int .i64 q] w fun e w' =>
  e = .returned (.func (.func 181) #[] #[.pointer (some ⟨w.heap.size, 0, none⟩), .pointer (some ⟨w.heap.size + 1, 0, none⟩)]) ∧ w' = (w.alloc (.cells #[.pointer p] 141)).alloc (.cells #[.int .i64 q] 3) := by
 go_enter Tryz.func152, Tryz.ntmps152
 go_wp2_with fail
 go_ret
 exact ⟨rfl, rfl⟩
end
theorem Tryz.infoBlocks : (Tryz.prog.info? 25).map (fun i => (i.zero, i.size, i.bytes)) = some (some (.slice none 0 0), 1, 24) := by kernel_rfl
theorem bclone_any (w : World) (C : Option Addr) (cc : Nat) (bs : List Bk) (hrow : ERow w w.heap.size (.slice C bs.length cc) bs.length (bkVs bs)) (hl : bs.length ≤ 1000000000) :
  Calls Tryz.prog 153 #[.slice C bs.length cc] w fun e w' => ∃ C2 c2, e = .returned (.slice C2 bs.length c2) ∧ w'.ownsRow w.heap.size 25 1 (.slice C2 bs.length c2) bs.length (bkVs bs) ∧ Below w.heap.size w w' := by
 obtain ⟨i1, hi1, hy0, hy1, hy2⟩ := info_parts Tryz.infoBlocks
 obtain ⟨-, l1, l2⟩ := hrow.len
 have h1 : ∀ u ∈ bkVs bs, u.oneCell' = true := by
  intro u hu
  unfold bkVs at hu
  obtain ⟨b, _, rfl⟩ := List.mem_map.1 hu
  rfl
 have hlen : (bkVs bs).length = bs.length := by unfold bkVs; rw [List.length_map]
 rcases C with _ | ad
 ·have h0 : bs.length = 0 := by
   obtain ⟨A', c', hv, q1, q2, q3, q4⟩ := hrow
   injection hv with e1 e2 e3
   subst e1 e3
   have := q3 rfl
   omega
  obtain rfl : cc = 0 := by
   obtain ⟨A', c', hv, q1, q2, q3, q4⟩ := hrow
   injection hv with e1 e2 e3
   subst e1 e3
   exact q3 rfl
  rw [List.length_eq_zero_iff.1 h0]
  clear hrow
  have hnl := Lib.run_eql_slice_nil (P := Tryz.prog) w 198 25 none 0 0 0 0 Tryz.underlying198
  go_enter Tryz.func153, Tryz.ntmps153
  go_wp2_with fail
  go_ret
  exact ⟨none, 0, rfl, World.ownsRow_nil _ _ _ _, Below.refl _ _⟩
 ·have ba := (Below.refl w.heap.size w).alloc (Nat.le_refl _) (.cells #[] 25)
  have hno := own_none (w := w) (base := w.heap.size) (e := 25) (size := 1) (Nat.le_refl _)
  have HR2 := hid (hrow.below ba)
  have HNO := hid hno
  have HB := hid ba
  clear hrow hno ba
  generalize bs.length = k at *
  have hnl := Lib.run_eql_slice_nil (P := Tryz.prog) w 198 25 (some ad) k cc 0 0 Tryz.underlying198
  go_enter Tryz.func153, Tryz.ntmps153
  go_wp2_with (at_builtin; refine wpList_append_erow _ rfl _ _ 198 25 rfl w.heap.size i1 (.slice none 0 0) 1 24 Tryz.underlying198 hi1 hy0 hy1 hy2 rfl (by decide) (.slice (some ⟨w.heap.size, 0, none⟩) 0 0) 0 [] (by rfl) HNO.out _ _ k (bkVs bs) (by rfl) HR2.out (by omega) h1 (by unfold maxLen; omega) (by omega) (by rw [World.size_alloc]; omega) k (by omega) (bkVs bs) (by simp) ?_; intro A6 c6 w6 hown6 hg6 hat6; have HO6 := hid hown6; have HG6 := hid hg6; clear hown6 hg6 hat6)
  go_ret
  have hlow : ∀ j, (Value.slice (some (⟨w.heap.size, 0, none⟩ : Addr)) 0 0).ownBlock = some j → w.heap.size ≤ j := fun j e => Nat.le_of_eq (by simpa [Value.ownBlock] using e)
  exact ⟨A6, c6, rfl, HO6.out, HB.out.grown HG6.out (by rw [World.size_alloc]; omega) hlow⟩
theorem encFr_byte2 {k : Int} {p : List Int} (hk : k = 1 ∨ k = 2) (hp : p.length ≤ 4096) (hb : ∀ x ∈ p, 0 ≤ x ∧ x < 256) : ∀ x ∈ encFr k p, 0 ≤ x ∧ x < 256 := by
 intro x hx
 have hbody := bodyL_byte hk hp hb
 simp only [encFr, List.mem_append] at hx
 rcases hx with hx | hx | hx
 ·exact markL_byte x hx
 ·exact hbody x hx
 ·exact le4_byte (sumX_lt hbody) x hx
theorem frB_bytes (sig : List Pr) {b : List Pm} (hf : ∀ p ∈ b, p.Fits ∧ ∀ e ∈ p.evs, ∀ a ∈ e.args, a.Fits) : ∀ y ∈ frB sig b, 0 ≤ y ∧ y < 256 := by
 unfold frB frameB
 by_cases h : (putB sig b).2 = 0
 ·rw [if_pos h]
  obtain ⟨h1, h2, h3⟩ := putB_ok h
  obtain ⟨h4, h5, h6⟩ := checkB_zero h1
  rw [h3]
  exact encFr_byte2 (.inr rfl) h2 (payB_bytes (bok_of h5 h6 hf))
 ·rw [if_neg h]
  intro y hy
  exact absurd hy (by simp)
theorem frameS_bytes (sig : List Pr) : ∀ y ∈ (frameS sig).1, 0 ≤ y ∧ y < 256 := by
 unfold frameS
 by_cases h : checkP sig = 0
 ·rw [if_pos h]
  exact encFr_byte2 (.inl rfl) (Nat.le_trans (encS_le h).2 (by omega)) (encS_bytes h)
 ·rw [if_neg h]
  intro y hy
  exact absurd hy (by simp)
theorem bframe_any (A : Option Addr) (c : Nat) (ds : List Pd) (T : Option Addr) (ct : Nat) (ps : List Pm) (w : World) (hrow : PredRow w w.heap.size (.slice A ds.length c) ds) (ht : TrRow w w.heap.size (.slice T ps.length ct) ps) :
  Calls Tryz.prog 183 #[.slice A ds.length c, .slice T ps.length ct] w (BGot w (frameB (ds.map (·.p)) ps)) := by
 have hput := blput_any A c ds T ct ps w hrow ht
 unfold frameB
 by_cases h0 : (putB (ds.map (·.p)) ps).2 = 0
 ·rw [if_pos h0]
  obtain ⟨h1, h2, h3⟩ := putB_ok h0
  have hby := payB_bytes (ht.bok h1)
  clear hrow ht
  rw [h3] at hput ⊢
  dsimp only at hput ⊢
  generalize payB ps = p at hput h2 hby ⊢
  have HP := hid hput
  have HBY := hid hby
  clear hput hby h0 h1 h3
  go_enter Tryz.func183, Tryz.ntmps183
  go_wp2_with fail
  refine HP.out.mono ?_
  rintro e w1 ⟨A1, c1, rfl, hown, hb1⟩
  have HF := hid (fput_any 2 (.inr rfl) A1 c1 p h2 HBY.out w1 (Row.of_own hown))
  have HB1 := hid hb1
  clear hown hb1
  go_wp2_with fail
  refine HF.out.mono ?_
  rintro e w2 ⟨cap, g, rfl, hown2, hb2⟩
  have HO2 := hid (own_base hown2 HB1.out.size)
  have HB2 := hid (HB1.out.trans (hb2.mono HB1.out.size))
  clear hown2 hb2
  go_wp2_with fail
  go_ret2
  exact ⟨_, _, rfl, HO2.out, HB2.out⟩
 ·rw [if_neg h0]
  have hne : ((putB (ds.map (·.p)) ps).2 != 0) = true := bne_iff_ne.2 h0
  generalize putB (ds.map (·.p)) ps = C at hput hne ⊢
  have HP := hid hput
  clear hput h0 hrow ht
  go_enter Tryz.func183, Tryz.ntmps183
  go_wp2_with fail
  refine HP.out.mono ?_
  rintro e w1 ⟨A1, c1, rfl, hown, hb1⟩
  have HB1 := hid hb1
  clear hown hb1
  go_wp2_with fail
  go_ret2
  exact ⟨none, 0, rfl, World.ownsRow_nil _ _ _ _, HB1.out⟩
theorem bpp_any (A : Option Addr) (c : Nat) (xs : List Int) (p : Pr) (hp : Small p) (A2 : Option Addr) (c2 : Nat) (hsm : xs.length ≤ 1000000) (w : World) (hrow : Row w w.heap.size (.slice A xs.length c) xs) (hir : IRow w w.heap.size (.slice A2 p.args.length c2) p.args) :
  Calls Tryz.prog 212 #[.slice A xs.length c, .agg #[.string (strOfNums p.name), .slice A2 p.args.length c2]] w fun e W' => ∃ A' c', e = .returned (.slice A' (xs ++ encP p).length c') ∧ W'.ownsRow w.heap.size 5 1 (.slice A' (xs ++ encP p).length c') (xs ++ encP p).length ((xs ++ encP p).map (.int .u8)) ∧ Below w.heap.size w W' := by
 obtain ⟨i0, hi, hz0, hz1, hz2⟩ := info_parts Tryz.infoU8
 obtain ⟨hn1, hn2, hnb, hab⟩ := hp
 obtain ⟨hc1, hc2⟩ : p.args.length ≤ c2 ∧ c2 ≤ 9223372036854775807 := by
  obtain ⟨A', c', hv, q1, q2, _⟩ := hir
  injection hv with _ _ e3
  rw [List.length_map] at q1
  unfold maxLen at q2
  exact ⟨by omega, by omega⟩
 have he1 : (encT p.name).length ≤ 33 := by rw [encT_length, encI_one (by omega)]; omega
 have he2 : (encI p.args.length).length = 1 := encI_one (by omega)
 unfold encP
 obtain ⟨nm, ar⟩ := p
 simp only at hn1 hn2 hnb hab hc1 he1 he2 hir ⊢
 have ba : Below w.heap.size w (w.alloc (.cells #[.string (strOfNums nm), .slice A2 ar.length c2] 58)) := (Below.refl _ _).alloc (Nat.le_refl _) _
 have HBX := hid (show Held (w.alloc (.cells #[.string (strOfNums nm), .slice A2 ar.length c2] 58)) w.heap.size 58 #[.string (strOfNums nm), .slice A2 ar.length c2] from heap_alloc_new w _)
 have HIR := hid (hir.below ba)
 have HPN := hid (bput_any A c xs nm hnb (by omega) (by omega) (w.alloc (.cells #[.string (strOfNums nm), .slice A2 ar.length c2] 58)) ((hrow.below ba).more ba.size))
 have HB := hid ba
 have HAB := hid hab
 generalize hE : encT nm = E at HPN he1 ⊢
 clear hE
 obtain ⟨Z, hZ⟩ : ∃ Z, xs ++ (E ++ (encI ar.length ++ ar)) = Z := ⟨_, rfl⟩
 rw [hZ]
 have HZ := hid (show xs ++ E ++ encI ar.length ++ ar = Z by rw [← hZ]; simp)
 clear hZ
 obtain ⟨w1, hw1⟩ : ∃ w1, w.alloc (.cells #[.string (strOfNums nm), .slice A2 ar.length c2] 58) = w1 := ⟨_, rfl⟩
 have hz1w : w1.heap.size = w.heap.size + 1 := by rw [← hw1]; simp
 rw [hw1] at HBX HIR HPN HB
 have hx0 := HBX.out.cell 0
 simp at hx0
 clear hrow hir ba hnb hab
 go_enter Tryz.func212, Tryz.ntmps212
 go_wp2_with fail
 refine HPN.out.mono ?_
 rintro e w2 ⟨v2, rfl, hown2, hb2⟩
 rw [← List.length_append] at hown2
 obtain ⟨A3, c3, rfl⟩ := own_form hown2
 have hxl : (xs ++ E).length ≤ 1000100 := by rw [List.length_append]; omega
 generalize xs ++ E = X at hown2 hxl HZ
 have hn2 := hb2.size
 have hbx2 := HBX.out.below hb2 (by omega)
 have hx1 := hbx2.cell 1
 simp at hx1
 have HPU := hid (put_any A3 c3 X ar.length (by omega) (by omega) w2 (Row.of_own hown2))
 have HIR2 := hid (HIR.out.below (hb2.mono (by omega)))
 have HB2 := hid (HB.out.trans (hb2.mono (by omega)))
 have HBX2 := hid hbx2
 clear hown2 hb2 hx0 hbx2
 go_wp2_with fail
 refine HPU.out.mono ?_
 rintro e w3 ⟨v3, rfl, hown3, hb3⟩
 rw [← List.length_append] at hown3
 have hyl : (X ++ encI ar.length).length ≤ 1000101 := by rw [List.length_append]; omega
 generalize X ++ encI ar.length = Y at hown3 hyl HZ
 obtain ⟨A4, c4, rfl⟩ := own_form hown3
 have hbx3 := HBX2.out.below hb3 (by omega)
 have hx1 := hbx3.cell 1
 simp at hx1
 have HO3 := hid (own_base hown3 (show w.heap.size ≤ w2.heap.size by omega))
 have HIR3 := hid (HIR2.out.below (hb3.mono (show w.heap.size ≤ w2.heap.size by omega)))
 have HB3 := hid (HB2.out.trans (hb3.mono (show w.heap.size ≤ w2.heap.size by omega)))
 clear hown3 hb3 hbx3
 go_wp2_with fail
 go_loopg [0, 20] ar.length (fun gk v i wr => ∃ (k : Nat) (A : Option Addr) (c : Nat), k ≤ ar.length ∧ i = .int .i64 k ∧ v = .slice A (Y.length + k) c ∧ Hid (ar.length - k = gk) ∧ Hid (wr.ownsRow w.heap.size 5 1 (.slice A (Y.length + k) c) (Y.length + k) ((Y ++ ar.take k).map (.int .u8))) ∧ Hid (IRow wr w.heap.size (.slice A2 ar.length c2) ar) ∧ Hid (Below w.heap.size w wr))
 case atStart => exact ⟨0, A4, c4, Nat.zero_le _, rfl, rfl, hid rfl, by simpa using HO3, HIR3, HB3⟩
 case round =>
  obtain ⟨k, A, c, hk, rfl, rfl, HGK, HO, HI, HBW⟩ := hrel
  by_cases hlt : k < ar.length
  ·obtain ⟨b, o, rfl, hb, ht⟩ := HI.out.at hlt
   have hbt : 0 ≤ ar.getD k 0 ∧ ar.getD k 0 < 256 := HAB.out _ (by rw [List.getD, List.getElem?_eq_getElem hlt]; exact List.getElem_mem hlt)
   have hnx : ar.take (k + 1) = ar.take k ++ [ar.getD k 0] := by rw [List.take_add_one, List.getD, List.getElem?_eq_getElem hlt]; rfl
   generalize ar.getD k 0 = t at ht hbt hnx
   obtain ⟨t0, t1⟩ := hbt
   have HNX := hid hnx
   have hzw := HBW.out.size
   clear hnx
   go_wp2_with (at_builtin; refine wpList_append_own _ rfl _ _ 22 rfl w.heap.size 5 i0 (.int .u8 0) 1 1 Tryz.underlying22 hi hz0 hz1 hz2 rfl (by decide) _ _ _ rfl (HO.out.alloc _) ⟨wr.heap.size, 0, none⟩ 1 1 [.int .u8 t] rfl rfl (cell_one_new _ _ _) (by simp [Value.oneCell']) (by simp only [maxLen]; omega) (by omega) (by simp; omega) ?_; intro v5 w5 hown5 hg5 hn5)
   have hlow : ∀ i, (Value.slice A (Y.length + k) c).ownBlock = some i → w.heap.size ≤ i := fun i e => (World.ownsRow.lt HO.out i e).1
   have hb5 : Below w.heap.size w w5 := (HBW.out.alloc hzw _).grown hg5 (by simp; omega) hlow
   have HI5 := hid ((HI.out.below ((Below.refl _ _).alloc hzw _)).below (((Below.refl _ _).grown hg5 (by simp; omega) hlow)))
   have HB5 := hid hb5
   have hmap : (Y ++ ar.take k).map (Value.int .u8) ++ [.int .u8 t] = (Y ++ ar.take (k + 1)).map (.int .u8) := by rw [HNX.out]; simp
   rw [hmap, Nat.add_assoc] at hown5
   obtain ⟨A5, c5, rfl⟩ := own_form hown5
   have HO5 := hid hown5
   clear hown5 hg5 hn5 hlow hmap hb5
   go_roundg (ar.length - (k + 1))
   case measure => have := HGK.out; omega
   case rel => exact ⟨k + 1, A5, c5, by omega, by go_num, rfl, hid rfl, HO5, HI5, HB5⟩
  ·obtain rfl : k = ar.length := by omega
   have hz := HZ.out
   have ho := HO.out
   rw [List.take_length, ← List.length_append, hz] at ho
   have HO' := hid ho
   have HZl := hid (show Y.length + ar.length = Z.length by rw [← hz, List.length_append])
   clear hz ho
   go_wp2_with fail
   go_ret
   exact ⟨A, c, by rw [HZl.out]; rfl, HO'.out, HBW.out⟩
def PutGot (w : World) (r : List Int × Int) (e : Ending) (W' : World) : Prop :=
 ∃ A c, e = .returned (.tuple #[.slice A r.1.length c, .int .i64 r.2]) ∧ W'.ownsRow w.heap.size 5 1 (.slice A r.1.length c) r.1.length (r.1.map (.int .u8)) ∧ Below w.heap.size w W'
theorem sbput_any (A : Option Addr) (c : Nat) (ds : List Pd) (w : World) (hrow : PredRow w w.heap.size (.slice A ds.length c) ds) :
  Calls Tryz.prog 207 #[.slice A ds.length c] w (PutGot w (putS (ds.map (·.p)))) := by
 obtain ⟨hc1, hc2⟩ : ds.length ≤ c ∧ c ≤ 9223372036854775807 := by
  obtain ⟨A', c', hv, q1, q2⟩ := hrow.form
  injection hv with _ _ e3
  exact ⟨by omega, by omega⟩
 have hck := scheck_any A c ds w hrow
 by_cases h0 : checkP (ds.map (·.p)) = 0
 ·obtain ⟨hs1, hs2⟩ := check_small h0
  rw [List.length_map] at hs1
  have hput : putS (ds.map (·.p)) = (encS (ds.map (·.p)), 0) := if_pos h0
  rw [hput]
  clear hput
  rw [h0] at hck
  obtain ⟨F, hF⟩ : ∃ F : Nat → List Int, F = fun k => encI ds.length ++ catP ((ds.map (·.p)).take k) := ⟨_, rfl⟩
  have hF0 : F 0 = encI ds.length := by rw [hF]; simp [catP]
  have hFn : F ds.length = encS (ds.map (·.p)) := by rw [hF]; simp only [encS, List.length_map]; rw [List.take_of_length_le (by rw [List.length_map]; exact Nat.le_refl _)]
  have hFs : ∀ k d, ds[k]? = some d → F (k + 1) = F k ++ encP d.p := by
   intro k d hd
   rw [hF]
   simp only
   rw [catP_take_succ _ (at_pr hd), List.append_assoc]
  have hFl : ∀ k, (F k).length ≤ 3000 := by
   intro k
   rw [hF]
   simp only [List.length_append]
   have h1 := catP_le ((ds.map (·.p)).take k) (fun p hp => hs2 p (List.mem_of_mem_take hp))
   rw [List.length_take, List.length_map] at h1
   rw [encI_one (by omega)]
   omega
  rw [← hFn]
  have HPN := hid (fun W => put_nil ds.length (by omega) W)
  rw [← hF0] at HPN
  clear hF hF0 hFn h0
  have HS := hid (fun (k : Nat) (d : Pd) (hd : ds[k]? = some d) => hs2 d.p (List.mem_map.2 ⟨d, List.mem_of_getElem? hd, rfl⟩))
  have HFS := hid hFs
  have HFL := hid hFl
  have HCK := hid hck
  have HROW := hid hrow
  clear hck hrow hs2 hFs hFl
  go_enter Tryz.func207, Tryz.ntmps207
  go_wp2_with fail
  refine HCK.out.mono ?_
  rintro e w1 ⟨rfl, hb1⟩
  go_wp2_with fail
  refine (HPN.out w1).mono ?_
  rintro e w2 ⟨v2, rfl, hown2, hb2⟩
  have hz1 := hb1.size
  obtain ⟨A2, c2, rfl⟩ := own_form hown2
  have HO2 := hid (own_base hown2 hz1)
  have HB2 := hid (hb1.trans (hb2.mono hz1))
  clear hown2 hb2 hb1
  go_wp2_with fail
  go_loopg [5, 19] ds.length (fun gk v i wr => ∃ (k : Nat) (A : Option Addr) (c : Nat), k ≤ ds.length ∧ i = .int .i64 k ∧ v = .slice A (F k).length c ∧ Hid (ds.length - k = gk) ∧ Hid (wr.ownsRow w.heap.size 5 1 (.slice A (F k).length c) (F k).length ((F k).map (.int .u8))) ∧ Hid (Below w.heap.size w wr))
  case atStart => exact ⟨0, A2, c2, Nat.zero_le _, rfl, rfl, hid rfl, HO2, HB2⟩
  case round =>
   obtain ⟨k, A3, c3, hk, rfl, rfl, HGK, HO, HBW⟩ := hrel
   by_cases hlt : k < ds.length
   ·obtain ⟨d, hd⟩ : ∃ d, ds[k]? = some d := ⟨_, List.getElem?_eq_getElem hlt⟩
    obtain ⟨b, o, rfl, hb, x0, x1, hir, hfit, ha1, ha2⟩ := (HROW.out.below HBW.out).at hd
    have hzw := HBW.out.size
    have ba : Below wr.heap.size wr (wr.alloc (.cells #[.string (strOfNums d.p.name), .slice d.A d.p.args.length d.c] 58)) := (Below.refl _ _).alloc (Nat.le_refl _) _
    have HCALL := hid (bpp_any A3 c3 (F k) d.p (HS.out k d hd) d.A d.c (by have := HFL.out k; omega) _ (((Row.of_own HO.out).below ba).more ba.size) ((hir.below (ba.mono hzw)).more (by have := ba.size; omega)))
    rw [← HFS.out k d hd] at HCALL
    have HBA := hid (HBW.out.trans (ba.mono hzw))
    clear hir hfit hd ba
    go_wp2_with fail
    refine HCALL.out.mono ?_
    rintro e w4 ⟨A5, c5, rfl, hown5, hb5⟩
    have hza : w.heap.size ≤ (wr.alloc (.cells #[.string (strOfNums d.p.name), .slice d.A d.p.args.length d.c] 58)).heap.size := HBA.out.size
    have HO5 := hid (own_base hown5 hza)
    have HB5 := hid (HBA.out.trans (hb5.mono hza))
    clear hown5 hb5 hza
    go_wp2_with fail
    go_roundg (ds.length - (k + 1))
    case measure => have := HGK.out; omega
    case rel => exact ⟨k + 1, A5, c5, by omega, by go_num, rfl, hid rfl, HO5, HB5⟩
   ·obtain rfl : k = ds.length := by omega
    go_wp2_with fail
    go_ret2
    exact ⟨A3, c3, rfl, HO.out, HBW.out⟩
 ·have hne : (checkP (ds.map (·.p)) != 0) = true := bne_iff_ne.2 h0
  have hput : putS (ds.map (·.p)) = ([], checkP (ds.map (·.p))) := if_neg h0
  rw [hput]
  clear hput
  generalize checkP (ds.map (·.p)) = C at hck hne ⊢
  have HCK := hid hck
  clear hck h0
  go_enter Tryz.func207, Tryz.ntmps207
  go_wp2_with fail
  refine HCK.out.mono ?_
  rintro e w1 ⟨rfl, hb1⟩
  go_wp2_with fail
  go_ret2
  exact ⟨none, 0, rfl, World.ownsRow_nil _ _ _ _, hb1⟩
theorem framed_any (A : Option Addr) (c : Nat) (p : List Int) (hp : p.length ≤ 4096) (hb : ∀ x ∈ p, 0 ≤ x ∧ x < 256) (w : World) (hrow : Row w w.heap.size (.slice A p.length c) p) :
  Calls Tryz.prog 208 #[.slice A p.length c] w (PutGot w (encFr 1 p, 0)) := by
 have HP := hid (fput_any 1 (.inl rfl) A c p hp hb w hrow)
 have hpi : (p.length : Int) ≤ 4096 := by omega
 clear hrow hb
 go_enter Tryz.func208, Tryz.ntmps208
 go_wp2_with fail
 refine HP.out.mono ?_
 rintro e w1 ⟨cap, g, rfl, hown, hb1⟩
 have HO := hid hown
 clear hown
 go_wp2_with fail
 go_ret2
 exact ⟨_, _, rfl, HO.out, hb1⟩
theorem sbframe_any (A : Option Addr) (c : Nat) (ds : List Pd) (w : World) (hrow : PredRow w w.heap.size (.slice A ds.length c) ds) :
  Calls Tryz.prog 182 #[.slice A ds.length c] w (PutGot w (frameS (ds.map (·.p)))) := by
 have hput := sbput_any A c ds w hrow
 clear hrow
 unfold frameS
 unfold putS at hput
 by_cases h0 : checkP (ds.map (·.p)) = 0
 ·rw [if_pos h0] at hput ⊢
  obtain ⟨_, hl⟩ := encS_le h0
  have hby := encS_bytes h0
  generalize encS (ds.map (·.p)) = p at hput hl hby ⊢
  have HP := hid hput
  have HBY := hid hby
  clear hput hby h0
  go_enter Tryz.func182, Tryz.ntmps182
  go_wp2_with fail
  refine HP.out.mono ?_
  rintro e w1 ⟨A1, c1, rfl, hown, hb1⟩
  have HF := hid (framed_any A1 c1 p (by omega) HBY.out w1 (Row.of_own hown))
  have HB1 := hid hb1
  clear hown hb1
  go_wp2_with fail
  refine HF.out.mono ?_
  rintro e w2 ⟨A2, c2, rfl, hown2, hb2⟩
  have HO2 := hid (own_base hown2 HB1.out.size)
  have HB2 := hid (HB1.out.trans (hb2.mono HB1.out.size))
  clear hown2 hb2
  go_wp2_with fail
  go_ret2
  exact ⟨A2, c2, rfl, HO2.out, HB2.out⟩
 ·rw [if_neg h0] at hput ⊢
  have hne : (checkP (ds.map (·.p)) != 0) = true := bne_iff_ne.2 h0
  generalize checkP (ds.map (·.p)) = C at hput hne ⊢
  have HP := hid hput
  clear hput h0
  go_enter Tryz.func182, Tryz.ntmps182
  go_wp2_with fail
  refine HP.out.mono ?_
  rintro e w1 ⟨A1, c1, rfl, hown, hb1⟩
  have HB1 := hid hb1
  clear hown hb1
  go_wp2_with fail
  go_ret2
  exact ⟨none, 0, rfl, World.ownsRow_nil _ _ _ _, HB1.out⟩
end Go.Proofs.YtnlfcmbpocdpjaaGreat
