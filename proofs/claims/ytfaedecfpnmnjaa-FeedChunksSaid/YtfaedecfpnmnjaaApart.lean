/-
  Rows of a call's own, of unlike elements, lie in two blocks; the bytes of frames in a row; a place that was found.
-/
import Derived.Test.YtfaedecfpnmnjaaFramePut
import Derived.Test.YtfaedecfpnmnjaaFinds
import Derived.Deep.AppendLies
namespace Go.Proofs.Ytfaedecfpnmnjaa
open Go.RowKit

theorem encFr_bytes {k : Int} {p : List Int} (hk : k = 1 ∨ k = 2) (hp : p.length ≤ 4096) (hb : ∀ x ∈ p, 0 ≤ x ∧ x < 256) : ∀ x ∈ encFr k p, 0 ≤ x ∧ x < 256 := by
  intro x hx
  have hbody := bodyL_byte hk hp hb
  simp only [encFr, List.mem_append] at hx
  rcases hx with hx | hx | hx
  · exact markL_byte x hx
  · exact hbody x hx
  · exact le4_byte (sumX_lt hbody) x hx
/-- A slice of some cells, newly made. -/
theorem own_cells (w : World) (base : Nat) (e : TypeId) (us : List Value) (hb : base ≤ w.heap.size) (hl : us.length ≤ 1000) : (w.alloc (.cells us.toArray e)).ownsRow base e 1 (.slice (some ⟨w.heap.size, 0, none⟩) us.length us.length) us.length us :=
  ⟨by simp, .inr ⟨w.heap.size, us.length, us.toArray, rfl, hb, heap_alloc_new w _, Nat.le_refl _, by unfold maxLen; omega, by simp, by simp⟩⟩

/-- Rows of the call's own of unlike elements lie in two blocks. -/
theorem own_apart {w : World} {b1 b2 : Nat} {e1 e2 : TypeId} {s1 s2 n1 n2 : Nat} {v1 v2 : Value} {xs1 xs2 : List Value} (h1 : w.ownsRow b1 e1 s1 v1 n1 xs1) (h2 : w.ownsRow b2 e2 s2 v2 n2 xs2) (he : e1 ≠ e2) : v1.ownBlock = none ∨ v1.ownBlock ≠ v2.ownBlock := by
  rcases h1.2 with ⟨rfl, _⟩ | ⟨g1, c1, cur1, rfl, _, hg1, _⟩
  · exact .inl rfl
  · refine .inr fun e => ?_
    rcases h2.2 with ⟨rfl, _⟩ | ⟨g2, c2, cur2, rfl, _, hg2, _⟩
    · simp [Value.ownBlock] at e
    · obtain rfl : g1 = g2 := by simpa [Value.ownBlock] using e
      rw [hg1] at hg2
      injection hg2 with hg2
      injection hg2 with _ e3 _
      exact he e3
theorem own_form {w : World} {base : Nat} {e : TypeId} {size n : Nat} {v : Value} {us : List Value} (h : w.ownsRow base e size v n us) : ∃ A c, v = .slice A n c := by
  rcases h.2 with ⟨rfl, rfl⟩ | ⟨g, c, _, rfl, _⟩
  · exact ⟨none, 0, rfl⟩
  · exact ⟨_, c, rfl⟩
theorem catFr_bytes : ∀ (l : List (Int × List Int)), (∀ f ∈ l, Fit f ∧ ∀ y ∈ f.2, 0 ≤ y ∧ y < 256) → ∀ x ∈ catFr l, 0 ≤ x ∧ x < 256
  | [], _, x, hx => by simp [catFr] at hx
  | f :: r, h, x, hx => by
    rw [catFr] at hx
    rcases List.mem_append.1 hx with hx | hx
    · obtain ⟨⟨h1, h2⟩, h3⟩ := h f (by simp)
      exact encFr_bytes h1 h2 h3 x hx
    · exact catFr_bytes r (fun f hf => h f (by simp [hf])) x hx
theorem placed_nat {w w' : World} {n : Nat} {e : Ending} (h : Placed w (n : Int) e w') : e = .returned (.tuple #[.int .i64 n, .bool true]) ∧ Below w.heap.size w w' := by
  obtain ⟨rfl, hb⟩ := h
  refine ⟨?_, hb⟩
  rw [show max (n : Int) 0 = (n : Int) by omega, show decide (0 ≤ (n : Int)) = true by simp]
theorem Try.infoInt : (Try.prog.info? 3).map (fun i => (i.zero, i.size, i.bytes)) = some (some (.int .i64 0), 1, 8) := by kernel_rfl
end Go.Proofs.Ytfaedecfpnmnjaa
