/-
  The chapter's example of layer 15.
-/
import Derived.Test.YtfknibjejnmghaaGreatUnblockGet
namespace Go.Proofs.YtfknibjejnmghaaGreat
open Go.RowKit Go.ChangeShapes Go.WideShapes
set_option linter.unusedVariables false

/-- Writing into a row of the call's own. -/
theorem own_write {w : World} {n c g m : Nat} {e : TypeId} {A : Option Addr} {us : List Value} {u0 : Value} (h : w.ownsRow n e 1 (.slice A g c) g us) (hm : m < g) (hu : us[m]? = some u0) :
    ∃ b, A = some ⟨b, 0, none⟩ ∧ n ≤ b ∧ w.cell? ⟨b, m, none⟩ = some u0 ∧ w.frozen? ⟨b, m, none⟩ = false ∧ ∀ u, (w.setCell ⟨b, m, none⟩ u).ownsRow n e 1 (.slice A g c) g (us.set m u) := by
  rcases h.2 with ⟨h1, h2⟩ | ⟨b, cap, cur, h1, hb, _⟩
  · omega
  · injection h1 with e1 _ e3
    subst e1 e3
    exact ⟨b, rfl, hb, (h.cellAt m (by omega)).trans hu, h.frozenAt m, fun u => (h.stored m u).1⟩
theorem get_ex15 : getU [⟨[112], [1]⟩] [5, 1, 0, 1, 0, 6] = ([⟨5, [⟨0, [⟨1, 3, []⟩]⟩]⟩], 0) := by decide +kernel

set_option maxRecDepth 100000 in
set_option maxHeartbeats 1000000 in
theorem fix15_any (w : World) : Calls Tryz.prog 5 #[] w fun e w' => e = .returned (.bool true) ∧ Below w.heap.size w w' := by
  obtain ⟨n, hn⟩ : ∃ n, w.heap.size = n := ⟨_, rfl⟩
  obtain ⟨u0, hu0⟩ : ∃ u, w.alloc (.cells #[.int .i64 1] 3) = u := ⟨_, rfl⟩
  have s0 : u0.heap.size = n + 1 := by rw [← hu0, World.size_alloc, hn]
  have b0 : Below (n) w u0 := by rw [← hu0]; exact (Below.refl _ _).alloc (by omega) _
  have h0 : Held u0 (n) 3 #[.int .i64 1] := by rw [← hu0, ← hn]; exact heap_alloc_new w _
  obtain ⟨u1, hu1⟩ : ∃ u, u0.alloc (.cells #[.string { data := #[112] }, .slice (some ⟨n, 0, none⟩) 1 1] 45) = u := ⟨_, rfl⟩
  have s1 : u1.heap.size = n + 2 := by rw [← hu1, World.size_alloc, s0]
  have b1 : Below (n + 1) u0 u1 := by rw [← hu1]; exact (Below.refl _ _).alloc (by omega) _
  have h1 : Held u1 (n + 1) 45 #[.string { data := #[112] }, .slice (some ⟨n, 0, none⟩) 1 1] := by rw [← hu1, ← s0]; exact heap_alloc_new u0 _
  obtain ⟨u2, hu2⟩ : ∃ u, u1.alloc (.cells #[.int .u8 5, .int .u8 1, .int .u8 0, .int .u8 1, .int .u8 0, .int .u8 6] 5) = u := ⟨_, rfl⟩
  have s2 : u2.heap.size = n + 3 := by rw [← hu2, World.size_alloc, s1]
  have b2 : Below (n + 2) u1 u2 := by rw [← hu2]; exact (Below.refl _ _).alloc (by omega) _
  have h2 : Held u2 (n + 2) 5 #[.int .u8 5, .int .u8 1, .int .u8 0, .int .u8 1, .int .u8 0, .int .u8 6] := by rw [← hu2, ← s1]; exact heap_alloc_new u1 _
  have g0 : Held u2 (n) 3 #[.int .i64 1] := ((h0.below b1 (by omega)).below b2 (by omega))
  have g1 : Held u2 (n + 1) 45 #[.string { data := #[112] }, .slice (some ⟨n, 0, none⟩) 1 1] := (h1.below b2 (by omega))
  have hb2 : Below n w u2 := ((b0.trans (b1.mono (by omega))).trans (b2.mono (by omega)))
  have hpr : PredRow u2 u2.heap.size (.slice (some ⟨n + 1, 0, none⟩) 1 1) [⟨⟨[112], [1]⟩, some ⟨n, 0, none⟩, 1⟩] :=
    row_one (d := ⟨⟨[112], [1]⟩, some ⟨n, 0, none⟩, 1⟩) g1 (one_int (g0) (by omega)) ⟨by unfold maxLen; simp, by simp, by simp⟩
  have hrow : Row u2 u2.heap.size (.slice (some ⟨n + 2, 0, none⟩) 6 6) [5, 1, 0, 1, 0, 6] := Row.of_cells (w := u2) (g := n + 2) (xs := [5, 1, 0, 1, 0, 6]) (by decide) (by omega) (fun i hi => by
    rw [h2.cell i]
    match i, hi with
    | 0, _ => rfl
    | 1, _ => rfl
    | 2, _ => rfl
    | 3, _ => rfl
    | 4, _ => rfl
    | 5, _ => rfl
    | (k + 6), h => exact absurd h (by simp))
  have hck := uget_any (some ⟨n + 1, 0, none⟩) 1 [⟨⟨[112], [1]⟩, some ⟨n, 0, none⟩, 1⟩] (some ⟨n + 2, 0, none⟩) 6 [5, 1, 0, 1, 0, 6] (by decide) (by decide) u2 hpr hrow
  rw [List.map_cons, List.map_nil, get_ex15] at hck
  have HCK := Lib.hid hck
  have HB2 := Lib.hid hb2
  have z2 : n ≤ u2.heap.size := by omega
  clear g0 g1 h0 h1 h2 hpr hrow hck hb2 b0 b1 b2
  have HU := Lib.hid (And.intro hu0 (And.intro hu1 hu2))
  clear hu0 hu1 hu2
  go_enter Tryz.func5, Tryz.ntmps5
  go_wp2_with fail
  obtain ⟨hu0, hu1, hu2⟩ := HU.out
  rw [hu0, hu1, hu2]
  refine HCK.out.mono ?_
  rintro e w8 ⟨A8, c8, ps, rfl, hown, hps, hb8⟩
  have HB8 := Lib.hid (HB2.out.trans (hb8.mono (by omega)))
  obtain ⟨d, rfl⟩ : ∃ d, ps = [d] := List.length_eq_one_iff.1 (by simpa using congrArg List.length hps)
  have hd : d.p = ⟨5, [⟨0, [⟨1, 3, []⟩]⟩]⟩ := by simpa using hps
  obtain ⟨tm, evs, dA, dc⟩ := d
  simp only [Pm.p, Pn.mk.injEq] at hd
  obtain ⟨rfl, hev⟩ := hd
  obtain ⟨v, rfl⟩ : ∃ v, evs = [v] := List.length_eq_one_iff.1 (by simpa using congrArg List.length hev)
  have hv : v.e = ⟨0, [⟨1, 3, []⟩]⟩ := by simpa using hev
  obtain ⟨vp, va, vA, vc⟩ := v
  simp only [Em.e, Ev.mk.injEq] at hv
  obtain ⟨rfl, rfl⟩ := hv
  obtain ⟨b, o, rfl, _, p0, p1, ⟨hok, _⟩, _, _⟩ := hown.row.at (i := 0) rfl
  simp only [List.length_cons, List.length_nil, Nat.zero_add, Nat.zero_mul, Nat.add_zero] at p0 p1 hok
  obtain ⟨b2, o2, rfl, _, q0, q1, ⟨hok2, _⟩, _, _⟩ := hok.at (i := 0) rfl
  simp only [List.length_cons, List.length_nil, Nat.zero_add, Nat.zero_mul, Nat.add_zero] at q0 q1 hok2
  obtain ⟨b3, o3, rfl, _, _, r1, _, _⟩ := hok2.at (i := 0) rfl
  simp only [Nat.zero_mul, Nat.add_zero] at r1
  clear hown hps hb8 hu0 hu1 hu2 hok hok2 hev q0
  simp only [List.length_cons, List.length_nil, Nat.zero_add]
  go_wp2_with fail
  go_ret
  exact ⟨rfl, HB8.out⟩
#print axioms fix15_any
end Go.Proofs.YtfknibjejnmghaaGreat
