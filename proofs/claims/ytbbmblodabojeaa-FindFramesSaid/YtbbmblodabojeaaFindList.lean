/-
  A slice of frames that came in: what it reads as, and how that is kept; two rows of a call's own of unlike elements lie in two blocks.
-/
import Derived.Test.YtbbmblodabojeaaFindFixed
import Derived.Test.YtbbmblodabojeaaFindRef
import Derived.Test.YtbbmblodabojeaaArg
import Derived.Deep.SlicePairs
import Derived.Deep.AppendLies
import Derived.OpenShut
namespace Go.Proofs.Ytbbmblodabojeaa
open Go.RowKit Go.ChangeShapes Go.WideShapes

/-- The slice reads as these frames, each a kind and a payload. -/
def IsFrames (w : World) (a : Option Addr) (len cap : Nat) (l : List (Int × List Int)) : Prop :=
  l.length = len ∧ len ≤ cap ∧ cap ≤ maxLen ∧
  (0 < len → ∃ b o, a = some ⟨b, o, none⟩ ∧ b < w.heap.size ∧ ∀ i x, l[i]? = some x → w.cell? ⟨b, o + i * 2, none⟩ = some (.int .i64 x.1) ∧
    ∃ A c, w.cell? ⟨b, o + i * 2 + 1, none⟩ = some (.slice A x.2.length c) ∧ Row w w.heap.size (.slice A x.2.length c) x.2) ∧
  ∀ x ∈ l, (-9223372036854775808 ≤ x.1 ∧ x.1 ≤ 9223372036854775807) ∧ x.2.length ≤ 9223372036854775807 ∧ ∀ y ∈ x.2, 0 ≤ y ∧ y < 256

theorem frames_of {H : Type} {enc : TypeId × Value → H} {w : World} {fuel : Nat} {a : Option Addr} {len cap : Nat} {x : DataW H × List MemPlace}
    (h : DataW.trod enc Try.prog w 0 (fun _ => true) true fuel 58 [.slice a len cap] = some x) : ∃ l, IsFrames w a len cap l := by
  rcases Go.Deep.open_slice_pairs Try.underlying58 Try.underlying36 (by kernel_rfl) rfl rfl (by kernel_rfl) (by kernel_rfl) h with ⟨hcs, _⟩ | ⟨ad, len', cap', m, n, V0, V1, D0, D1, P0, P1, hcs, hb, hl, hm, hmm, _, hi⟩
  · simp at hcs
    obtain ⟨rfl, rfl, rfl⟩ := hcs
    exact ⟨[], rfl, Nat.le_refl _, Nat.zero_le _, fun h => absurd h (by simp), by simp⟩
  · simp at hcs
    obtain ⟨rfl, rfl, rfl⟩ := hcs
    have hlm : len ≤ m := by rw [hmm]; split <;> omega
    have each : ∀ i, i < len → ∃ y : Int × List Int, w.cell? (ad.add (i * 2)) = some (.int .i64 y.1) ∧ (Lit.int .i64 y.1).wf = true ∧ ∃ A c, w.cell? (ad.add (i * 2 + 1)) = some (.slice A y.2.length c) ∧ Row w w.heap.size (.slice A y.2.length c) y.2 ∧ y.2.length ≤ 9223372036854775807 ∧ ∀ z ∈ y.2, 0 ≤ z ∧ z < 256 := by
      intro i hlt
      obtain ⟨g0, g1, t0, t1⟩ := hi i (by omega)
      obtain ⟨y0, e0, _, w0⟩ := DataW.trod_int (k := .i64) Try.underlying3 t0
      injection e0 with e0
      obtain ⟨A, ln, cp, zs, ev, hz⟩ : ∃ a0 len0 cap0 zs, V1 i = .slice a0 len0 cap0 ∧ IsRow .u8 w a0 len0 cap0 zs := by
        rcases open_ints Try.underlying22 Try.underlying5 (by kernel_rfl) t1 with ⟨hcs, _⟩ | ⟨x, l, c, zs, hcs, _, hl, hm, hz, _, hcell, hwz⟩
        · simp at hcs
          exact ⟨none, 0, 0, [], hcs, .inl ⟨rfl, rfl, rfl, rfl⟩⟩
        · simp at hcs
          exact ⟨some x, l, c, zs, hcs, .inr ⟨_, rfl, hl, hm, by simpa using hz, hcell, hwz⟩⟩
      obtain ⟨xs, rfl, hr, hby⟩ := Row.of_arg hz
      have hlen : xs.length ≤ 9223372036854775807 := by
        obtain ⟨_, _, hv, q1, q2, _⟩ := hr
        unfold maxLen at q2
        omega
      exact ⟨(y0, xs), by rw [g0, e0], w0, A, cp, by rw [g1, ev], hr, hlen, hby⟩
    let f : Nat → Int × List Int := fun i => if h : i < len then Classical.choose (each i h) else (0, [])
    have hf : ∀ i, i < len → w.cell? (ad.add (i * 2)) = some (.int .i64 (f i).1) ∧ (Lit.int .i64 (f i).1).wf = true ∧ ∃ A c, w.cell? (ad.add (i * 2 + 1)) = some (.slice A (f i).2.length c) ∧ Row w w.heap.size (.slice A (f i).2.length c) (f i).2 ∧ (f i).2.length ≤ 9223372036854775807 ∧ ∀ z ∈ (f i).2, 0 ≤ z ∧ z < 256 := by
      intro i hlt
      have := Classical.choose_spec (each i hlt)
      simp only [f, dif_pos hlt]
      exact this
    refine ⟨(List.range len).map f, by simp, hl, hm, fun hn => ?_, fun y hy => ?_⟩
    · obtain ⟨b, o, sp⟩ := ad
      have h0 := (hf 0 hn).1
      have hs : sp = none := by simpa [Addr.add] using World.cell?_spot h0
      subst hs
      refine ⟨b, o, rfl, World.block_lt_of_cell? w ⟨b, o, none⟩ (by simpa [Addr.add] using h0), fun i y hy => ?_⟩
      have hlt : i < len := by have := (List.getElem?_eq_some_iff.1 hy).1; simpa using this
      have hy' : f i = y := by simpa [List.getElem?_map, List.getElem?_range, hlt] using hy
      subst hy'
      obtain ⟨g0, _, A, c, g1, g2, _⟩ := hf i hlt
      rw [Go.WideShapes.add_plain] at g0 g1
      exact ⟨g0, A, c, g1, g2⟩
    · obtain ⟨i, hi', rfl⟩ := List.mem_map.1 hy
      obtain ⟨_, w0, _, _, _, _, g3, g4⟩ := hf i (List.mem_range.1 hi')
      have b0 := bounds_i64 w0
      exact ⟨by omega, g3, g4⟩

section
variable {w w' : World} {a : Option Addr} {len cap : Nat} {l : List (Int × List Int)}
theorem IsFrames.below (h : IsFrames w a len cap l) (hb : Below w.heap.size w w') : IsFrames w' a len cap l := by
  obtain ⟨h1, h2, h3, h4, h5⟩ := h
  refine ⟨h1, h2, h3, fun hn => ?_, h5⟩
  obtain ⟨b, o, e, hlt, hc⟩ := h4 hn
  refine ⟨b, o, e, Nat.lt_of_lt_of_le hlt hb.size, fun i x hx => ?_⟩
  obtain ⟨g0, A, c, g1, g2⟩ := hc i x hx
  exact ⟨(hb.cell (p := ⟨b, o + i * 2, none⟩) hlt).trans g0, A, c, (hb.cell (p := ⟨b, o + i * 2 + 1, none⟩) hlt).trans g1, (g2.below hb).more hb.size⟩
end

/-- Rows of the call's own of unlike elements lie in two blocks. -/
theorem own_apart {w : World} {b1 b2 : Nat} {e1 e2 : TypeId} {s1 s2 n1 n2 : Nat} {v1 v2 : Value} {xs1 xs2 : List Value} (h1 : w.ownsRow b1 e1 s1 v1 n1 xs1) (h2 : w.ownsRow b2 e2 s2 v2 n2 xs2) (he : e1 ≠ e2) : v1.ownBlock = none ∨ v1.ownBlock ≠ v2.ownBlock := by
  rcases h1.2 with ⟨rfl, _⟩ | ⟨g1, c1, cur1, rfl, _, hg1, _⟩
  · exact .inl rfl
  · refine .inr fun e => ?_
    rcases h2.2 with ⟨rfl, _⟩ | ⟨g2, c2, cur2, rfl, _, hg2, _⟩
    · simp [Value.ownBlock] at e
    · obtain rfl : g1 = g2 := by simpa [Value.ownBlock] using e
      rw [hg1] at hg2
      injection hg2 with hg2
      injection hg2 with _ e3 _
      exact he e3
theorem own_form {w : World} {base : Nat} {e : TypeId} {size n : Nat} {v : Value} {us : List Value} (h : w.ownsRow base e size v n us) : ∃ A c, v = .slice A n c := by
  rcases h.2 with ⟨rfl, rfl⟩ | ⟨g, c, _, rfl, _⟩
  · exact ⟨none, 0, rfl⟩
  · exact ⟨_, c, rfl⟩
theorem catFr_bytes : ∀ (l : List (Int × List Int)), (∀ f ∈ l, Fit f ∧ ∀ y ∈ f.2, 0 ≤ y ∧ y < 256) → ∀ x ∈ catFr l, 0 ≤ x ∧ x < 256
  | [], _, x, hx => by simp [catFr] at hx
  | f :: r, h, x, hx => by
    rw [catFr] at hx
    rcases List.mem_append.1 hx with hx | hx
    · obtain ⟨⟨h1, h2⟩, h3⟩ := h f (by simp)
      exact encFr_bytes h1 h2 h3 x hx
    · exact catFr_bytes r (fun f hf => h f (by simp [hf])) x hx
theorem placed_nat {w w' : World} {n : Nat} {e : Ending} (h : Placed w (n : Int) e w') : e = .returned (.tuple #[.int .i64 n, .bool true]) ∧ Below w.heap.size w w' := by
  obtain ⟨rfl, hb⟩ := h
  refine ⟨?_, hb⟩
  rw [show max (n : Int) 0 = (n : Int) by omega, show decide (0 ≤ (n : Int)) = true by simp]
theorem Try.infoInt : (Try.prog.info? 3).map (fun i => (i.zero, i.size, i.bytes)) = some (some (.int .i64 0), 1, 8) := by kernel_rfl
end Go.Proofs.Ytbbmblodabojeaa
