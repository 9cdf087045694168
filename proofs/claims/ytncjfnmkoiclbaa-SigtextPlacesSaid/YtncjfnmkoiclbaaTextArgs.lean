/-
  The types that a list of words tells, as the program reads them.
-/
import Derived.Test.YtncjfnmkoiclbaaTextCut
import Derived.Test.YtncjfnmkoiclbaaTextMap
import Derived.Test.YtncjfnmkoiclbaaSigRows
import Derived.Deep.LoopGhost
namespace Go.Proofs.Ytncjfnmkoiclbaa
open Go.RowKit

theorem wordsC_step (f : Nat) (s : List Int) : wordsC (f + 1) s = if tyOk (cutB 44 s).1 then (if (cutB 44 s).2.2 then (wordsC f (cutB 44 s).2.1).map (tyV (cutB 44 s).1 :: ·) else some [tyV (cutB 44 s).1]) else none := by
  rw [wordsC]
  unfold tyOk tyV
  cases typeOf (cutB 44 s).1 with
  | nil => rfl
  | cons t l => rfl
theorem tyOk_len {s : List Int} (h : tyOk s = true) : 3 ≤ s.length := by
  unfold tyOk typeOf at h
  split at h
  · rename_i e; rw [e]; decide
  · split at h
    · rename_i e; rw [e]; decide
    · simp at h
/-- What argsOf answers. -/
def ArgsAns (n : Nat) (o : Option (List Int)) (e : Ending) (w' : World) : Prop := match o with
  | none => e = .returned (.tuple #[.slice none 0 0, .bool false])
  | some l => ∃ A c, e = .returned (.tuple #[.slice A l.length c, .bool true]) ∧ w'.ownsRow n 3 1 (.slice A l.length c) l.length (l.map (.int .i64))
/-- How far the words are read. -/
structure ArgsAt (xs r zs : List Int) (m : Bool) : Prop where
  more : m = true → ∃ f, r.length < f ∧ argsC xs = (wordsC f r).map (zs ++ ·)
  done : m = false → argsC xs = some zs
  bytes : ∀ x ∈ r, 0 ≤ x ∧ x < 256
  len : zs.length + r.length ≤ xs.length
theorem ArgsAt.step {xs r zs : List Int} (h : ArgsAt xs r zs true) : (tyOk (cutB 44 r).1 = false → argsC xs = none) ∧ (tyOk (cutB 44 r).1 = true → ArgsAt xs (cutB 44 r).2.1 (zs ++ [tyV (cutB 44 r).1]) (cutB 44 r).2.2 ∧
    (if (cutB 44 r).2.2 = true then (cutB 44 r).2.1.length + 1 else 0) < r.length + 1) := by
  obtain ⟨h1, _, hb, hl⟩ := h
  obtain ⟨f, hf, e⟩ := h1 rfl
  obtain ⟨f, rfl⟩ : ∃ g, f = g + 1 := ⟨f - 1, by omega⟩
  rw [wordsC_step] at e
  obtain ⟨l1, l2, l3⟩ := cutB_len 44 r
  refine ⟨fun h0 => by rw [h0] at e; simpa using e, fun h0 => ?_⟩
  have hlen := tyOk_len h0
  rw [if_pos h0] at e
  refine ⟨⟨fun hm => ⟨f, by omega, ?_⟩, fun hm => ?_, (cutB_bytes hb).2, by simp; omega⟩, ?_⟩
  · rw [if_pos hm] at e
    rw [e, Option.map_map]
    congr 1
    funext z
    simp
  · rw [if_neg (by rw [hm]; decide)] at e
    simpa using e
  · split
    · rename_i hm
      have := l2 hm
      omega
    · omega

theorem own_ne_map {w : World} {r n k : Nat} {e : TypeId} {size : Nat} {v : Value} {us : List Value} (h : w.ownsRow n e size v k us) (ht : TypesIn w r) : some r ≠ v.ownBlock := by
  obtain ⟨b0, b1, cl, ht⟩ := ht
  rcases h.2 with ⟨rfl, _⟩ | ⟨g, cap, cur, rfl, _, hg, _⟩
  · simp [Value.ownBlock]
  · intro e
    simp only [Value.ownBlock, Option.some.injEq] at e
    subst e
    rw [hg] at ht
    cases ht
theorem own_form {w : World} {n k : Nat} {e : TypeId} {size : Nat} {v : Value} {us : List Value} (h : w.ownsRow n e size v k us) : ∃ A c, v = .slice A k c := by
  rcases h.2 with ⟨rfl, rfl⟩ | ⟨g, cap, cur, rfl, _⟩
  · exact ⟨none, 0, rfl⟩
  · exact ⟨_, _, rfl⟩

set_option maxRecDepth 100000 in
set_option maxHeartbeats 2000000 in
theorem args_any (xs : List Int) (hb : ∀ x ∈ xs, 0 ≤ x ∧ x < 256) (hl : xs.length ≤ 1000000) (w : World) :
    Calls Try.prog 44 #[.string (strOfNums xs)] w fun e w' => ArgsAns w.heap.size (argsC xs) e w' ∧ Below w.heap.size w w' := by
  obtain ⟨i0, hi, hz0, hz1, hz2⟩ := info_parts Try.infoIntB
  have hsz := strOfNums_size xs
  by_cases h0 : xs = []
  · subst h0
    rw [show argsC [] = some [] from rfl]
    rw [show strOfNums [] = ⟨#[]⟩ from rfl]
    go_enter Try.func44, Try.ntmps44
    go_wp2_with fail
    go_ret2
    exact ⟨⟨none, 0, rfl, World.ownsRow_nil _ _ _ _⟩, Below.refl _ _⟩
  · have hne : (strOfNums xs).toList.isEmpty = false := by
      rw [str_empty]
      cases xs with
      | nil => exact absurd rfl h0
      | cons x xs => rfl
    have hat : ArgsAt xs xs [] true := ⟨fun _ => ⟨xs.length + 1, by omega, by unfold argsC; rw [if_neg h0]; simp⟩, (fun h => by cases h), hb, by simp⟩
    have HAT := Lib.hid hat
    have HTY := Lib.hid (types_any w)
    obtain ⟨n, hn⟩ : ∃ n, w.heap.size = n := ⟨_, rfl⟩
    rw [hn] at HTY ⊢
    have HN := Lib.hid hn
    clear hat h0 hsz
    go_enter Try.func44, Try.ntmps44
    go_wp2_with fail
    refine HTY.out.mono ?_
    rintro e w1 ⟨rfl, ht1, hb1⟩
    have HT1 := Lib.hid ht1
    have HB1 := Lib.hid hb1
    clear ht1 hb1
    go_wp2_with fail
    go_loopg [0, 5, 6] (xs.length + 1) (fun gk s v m wr => ∃ (r zs : List Int) (mb : Bool) (A : Option Addr) (c : Nat), s = .string (strOfNums r) ∧ v = .slice A zs.length c ∧ m = .bool mb ∧ Hid ((if mb = true then r.length + 1 else 0) = gk) ∧ Hid (ArgsAt xs r zs mb) ∧ Hid (wr.ownsRow n 3 1 (.slice A zs.length c) zs.length (zs.map (.int .i64))) ∧ Hid (TypesIn wr n) ∧ Hid (Below n w wr))
    case atStart => exact ⟨xs, [], true, none, 0, rfl, rfl, rfl, Lib.hid rfl, HAT, Lib.hid (World.ownsRow_nil _ _ _ _), HT1, HB1⟩
    case round =>
      obtain ⟨r, zs, mb, A, c, rfl, rfl, rfl, HGK, HA, HOW, HTI, HBR⟩ := hrel
      cases mb with
      | false =>
        go_wp2_with fail
        go_ret2
        exact ⟨by rw [HA.out.done rfl]; exact ⟨A, c, rfl, HOW.out⟩, HBR.out⟩
      | true =>
        have hal := HA.out.len
        have hby := HA.out.bytes
        have HCU := Lib.hid (fun W => cut_any 44 44 rfl r hby (by omega) W)
        obtain ⟨s1, s2⟩ := HA.out.step
        have HS1 := Lib.hid s1
        have HS2 := Lib.hid s2
        have hcb := (cutB_bytes (c := 44) hby).1
        have HLK := Lib.hid (fun W (h : TypesIn W n) => types_look h (cutB 44 r).1 hcb)
        clear hby s1 s2 hcb
        generalize (cutB 44 r).1 = word at HCU HS1 HS2 HLK
        generalize (cutB 44 r).2.1 = rest at HCU HS2
        generalize (cutB 44 r).2.2 = mm at HCU HS2
        go_wp2_with fail
        refine (HCU.out _).mono ?_
        rintro e w2 ⟨rfl, hb2⟩
        have hlt := HTI.out.lt
        have hti2 := HTI.out.below hb2 hlt
        have hlk := HLK.out w2 hti2
        have HT2 := Lib.hid hti2
        have HO2 := Lib.hid (own_below HOW.out hb2)
        have HB2 := Lib.hid (HBR.out.trans (hb2.mono (Nat.le_of_lt hlt)))
        have hz2' : n ≤ w2.heap.size := by rw [← HN.out]; exact HB2.out.size
        clear hb2 hti2
        have hok : tyOk word = true ∨ tyOk word = false := by cases tyOk word <;> simp
        rcases hok with hok | hok
        · obtain ⟨q1, q2⟩ := HS2.out hok
          have HQ1 := Lib.hid q1
          have HQ2 := Lib.hid q2
          rw [hok] at hlk
          generalize tyV word = t at hlk HQ1
          clear q1 q2 hok
          go_wp2_with (at_builtin; refine wpList_append_own _ rfl _ _ 37 rfl n 3 i0 (.int .i64 0) 1 8 Try.underlying37 hi hz0 hz1 hz2 rfl (by decide) _ _ _ rfl (HO2.out.alloc _) ⟨w2.heap.size, 0, none⟩ 1 1 [.int .i64 t] rfl rfl (cell_one_new _ _ _) (by simp [Value.oneCell']) (by simp only [maxLen]; omega) (by omega) (by simp; omega) ?_; intro v3 w3 hown3 hg3 hn3)
          have hb3 : Below n w w3 := (HB2.out.alloc hz2' _).grown hg3 (by simp; omega) (fun j e => (World.ownsRow.lt HO2.out j e).1)
          have ht3 : TypesIn w3 n := by
            obtain ⟨b0, b1, cl, h⟩ := HT2.out
            refine ⟨b0, b1, cl, (hg3.block n (by simp; omega) ?_).trans ((heap_alloc_old w2 _ HT2.out.lt).trans h)⟩
            exact own_ne_map HO2.out HT2.out
          obtain ⟨A3, c3, rfl⟩ := own_form hown3
          have HO3 := Lib.hid hown3
          have HB3 := Lib.hid hb3
          have HT3 := Lib.hid ht3
          have HEV := Lib.hid (show (zs.map (Value.int .i64) ++ [.int .i64 t]) = (zs ++ [t]).map (.int .i64) by simp)
          obtain ⟨N, hN⟩ : ∃ N, (zs ++ [t]).length = N := ⟨_, rfl⟩
          have hN2 : zs.length + 1 = N := by rw [← hN]; simp
          have HNN := Lib.hid hN
          have HN2 := Lib.hid hN2
          clear hown3 hb3 ht3 hg3 hn3 hN hN2
          go_wp2_with fail
          go_roundg (if mm = true then rest.length + 1 else 0)
          case measure =>
            have := HQ2.out
            have := HGK.out
            simp at this
            omega
          case rel => exact ⟨rest, zs ++ [t], mm, A3, c3, rfl, by rw [HNN.out, ← HN2.out], rfl, Lib.hid rfl, HQ1, Lib.hid (by rw [← HEV.out, HNN.out, ← HN2.out]; exact HO3.out), HT3, HB3⟩
        · have HN := Lib.hid (HS1.out hok)
          rw [hok] at hlk
          clear hok
          generalize tyV word = t at hlk
          go_wp2_with fail
          go_ret2
          exact ⟨by rw [HN.out]; rfl, HB2.out⟩
#print axioms args_any
end Go.Proofs.Ytncjfnmkoiclbaa
