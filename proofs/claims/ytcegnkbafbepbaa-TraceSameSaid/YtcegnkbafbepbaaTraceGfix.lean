/-
  The chapter's example of layer 12, out of what Check answers.
-/
import Derived.Test.YtcegnkbafbepbaaTraceChk
namespace Go.Proofs.Ytcegnkbafbepbaa
open Go.RowKit

theorem trace_fixed : checkT [⟨[112], [1]⟩] [⟨3, [⟨0, [⟨1, 5, []⟩]⟩]⟩, ⟨2, [⟨0, [⟨1, 5, []⟩]⟩]⟩] = (8, 1) := by decide +kernel
theorem one_pred {w : World} {g B : Nat} {t : TypeId} {p : Pd} (h : Held w g t #[.string (strOfNums p.p.name), .slice p.A p.p.args.length p.c]) (hB : g < B)
    (hp : IRow w B (.slice p.A p.p.args.length p.c) p.p.args) (fp : p.Fits) : PredRow w B (.slice (some ⟨g, 0, none⟩) 1 1) [p] := by
  refine ⟨_, _, rfl, Nat.le_refl _, by unfold maxLen; omega, by simp, fun _ => ⟨g, 0, rfl, hB, fun i d hd => ?_⟩, fun d hd => ?_⟩
  · match i with
    | 0 =>
      simp only [List.getElem?_cons_zero, Option.some.injEq] at hd
      subst hd
      exact ⟨h.cell 0, h.cell 1⟩
    | i + 1 => simp at hd
  · obtain rfl := List.mem_singleton.1 hd
    exact ⟨hp, fp⟩
theorem held_row {w : World} {g B n : Nat} {t : TypeId} {us : List Value} (h : Held w g t us.toArray) (hB : g < B) (hn : n ≤ maxLen) : ERow w B (.slice (some ⟨g, 0, none⟩) n n) n us :=
  ⟨_, _, rfl, Nat.le_refl _, hn, by simp, fun _ => ⟨g, 0, rfl, hB, fun i u hi => by rw [Nat.zero_add, h.cell i]; simpa using hi⟩⟩
abbrev g5 : Ag := ⟨1, 5, []⟩

set_option maxRecDepth 100000 in
set_option maxHeartbeats 1000000 in
theorem tfix12_any (w : World) : Calls Try.prog 8 #[] w fun e w' => e = .returned (.bool true) ∧ Below w.heap.size w w' := by
  obtain ⟨N, hN⟩ : ∃ N, w.heap.size = N := ⟨_, rfl⟩
  obtain ⟨u1, hu1⟩ : ∃ u, w.alloc (.cells #[.int .i64 1, .int .i64 5, .string { data := #[] }] 49) = u := ⟨_, rfl⟩
  obtain ⟨u2, hu2⟩ : ∃ u, u1.alloc (.cells #[.int .i64 0, .slice (some ⟨N, 0, none⟩) 1 1] 42) = u := ⟨_, rfl⟩
  obtain ⟨u3, hu3⟩ : ∃ u, u2.alloc (.cells #[.int .i64 1] 3) = u := ⟨_, rfl⟩
  obtain ⟨u4, hu4⟩ : ∃ u, u3.alloc (.cells #[.string { data := #[112] }, .slice (some ⟨N + 1 + 1, 0, none⟩) 1 1] 54) = u := ⟨_, rfl⟩
  obtain ⟨u5, hu5⟩ : ∃ u, u4.alloc (.cells #[.int .i64 0, .slice (some ⟨N, 0, none⟩) 1 1] 42) = u := ⟨_, rfl⟩
  obtain ⟨u6, hu6⟩ : ∃ u, u5.alloc (.cells #[.int .i64 0, .slice (some ⟨N, 0, none⟩) 1 1] 42) = u := ⟨_, rfl⟩
  obtain ⟨u7, hu7⟩ : ∃ u, u6.alloc (.cells #[.int .u64 3, .slice (some ⟨N + 1 + 1 + 1 + 1, 0, none⟩) 1 1, .int .u64 2, .slice (some ⟨N + 1 + 1 + 1 + 1 + 1, 0, none⟩) 1 1] 39) = u := ⟨_, rfl⟩
  have s1 : u1.heap.size = N + 1 := by rw [← hu1, World.size_alloc, hN]
  have s2 : u2.heap.size = N + 1 + 1 := by rw [← hu2, World.size_alloc, s1]
  have s3 : u3.heap.size = N + 1 + 1 + 1 := by rw [← hu3, World.size_alloc, s2]
  have s4 : u4.heap.size = N + 1 + 1 + 1 + 1 := by rw [← hu4, World.size_alloc, s3]
  have s5 : u5.heap.size = N + 1 + 1 + 1 + 1 + 1 := by rw [← hu5, World.size_alloc, s4]
  have s6 : u6.heap.size = N + 1 + 1 + 1 + 1 + 1 + 1 := by rw [← hu6, World.size_alloc, s5]
  have s7 : u7.heap.size = N + 1 + 1 + 1 + 1 + 1 + 1 + 1 := by rw [← hu7, World.size_alloc, s6]
  have b1 : Below (N) w u1 := by rw [← hu1]; exact (Below.refl _ _).alloc (by omega) _
  have b2 : Below (N + 1) u1 u2 := by rw [← hu2]; exact (Below.refl _ _).alloc (by omega) _
  have b3 : Below (N + 1 + 1) u2 u3 := by rw [← hu3]; exact (Below.refl _ _).alloc (by omega) _
  have b4 : Below (N + 1 + 1 + 1) u3 u4 := by rw [← hu4]; exact (Below.refl _ _).alloc (by omega) _
  have b5 : Below (N + 1 + 1 + 1 + 1) u4 u5 := by rw [← hu5]; exact (Below.refl _ _).alloc (by omega) _
  have b6 : Below (N + 1 + 1 + 1 + 1 + 1) u5 u6 := by rw [← hu6]; exact (Below.refl _ _).alloc (by omega) _
  have b7 : Below (N + 1 + 1 + 1 + 1 + 1 + 1) u6 u7 := by rw [← hu7]; exact (Below.refl _ _).alloc (by omega) _
  have h0 : Held u7 (N) 49 #[.int .i64 1, .int .i64 5, .string { data := #[] }] := Held.below (Held.below (Held.below (Held.below (Held.below (Held.below ((show Held u1 (N) 49 #[.int .i64 1, .int .i64 5, .string { data := #[] }] from by rw [← hu1]; rw [← hN]; exact heap_alloc_new w _)) b2 (by omega)) b3 (by omega)) b4 (by omega)) b5 (by omega)) b6 (by omega)) b7 (by omega)
  have h1 : Held u7 (N + 1) 42 #[.int .i64 0, .slice (some ⟨N, 0, none⟩) 1 1] := Held.below (Held.below (Held.below (Held.below (Held.below ((show Held u2 (N + 1) 42 #[.int .i64 0, .slice (some ⟨N, 0, none⟩) 1 1] from by rw [← hu2, ← s1]; exact heap_alloc_new u1 _)) b3 (by omega)) b4 (by omega)) b5 (by omega)) b6 (by omega)) b7 (by omega)
  have h2 : Held u7 (N + 1 + 1) 3 #[.int .i64 1] := Held.below (Held.below (Held.below (Held.below ((show Held u3 (N + 1 + 1) 3 #[.int .i64 1] from by rw [← hu3, ← s2]; exact heap_alloc_new u2 _)) b4 (by omega)) b5 (by omega)) b6 (by omega)) b7 (by omega)
  have h3 : Held u7 (N + 1 + 1 + 1) 54 #[.string { data := #[112] }, .slice (some ⟨N + 1 + 1, 0, none⟩) 1 1] := Held.below (Held.below (Held.below ((show Held u4 (N + 1 + 1 + 1) 54 #[.string { data := #[112] }, .slice (some ⟨N + 1 + 1, 0, none⟩) 1 1] from by rw [← hu4, ← s3]; exact heap_alloc_new u3 _)) b5 (by omega)) b6 (by omega)) b7 (by omega)
  have h4 : Held u7 (N + 1 + 1 + 1 + 1) 42 #[.int .i64 0, .slice (some ⟨N, 0, none⟩) 1 1] := Held.below (Held.below ((show Held u5 (N + 1 + 1 + 1 + 1) 42 #[.int .i64 0, .slice (some ⟨N, 0, none⟩) 1 1] from by rw [← hu5, ← s4]; exact heap_alloc_new u4 _)) b6 (by omega)) b7 (by omega)
  have h5 : Held u7 (N + 1 + 1 + 1 + 1 + 1) 42 #[.int .i64 0, .slice (some ⟨N, 0, none⟩) 1 1] := Held.below ((show Held u6 (N + 1 + 1 + 1 + 1 + 1) 42 #[.int .i64 0, .slice (some ⟨N, 0, none⟩) 1 1] from by rw [← hu6, ← s5]; exact heap_alloc_new u5 _)) b7 (by omega)
  have h6 : Held u7 (N + 1 + 1 + 1 + 1 + 1 + 1) 39 #[.int .u64 3, .slice (some ⟨N + 1 + 1 + 1 + 1, 0, none⟩) 1 1, .int .u64 2, .slice (some ⟨N + 1 + 1 + 1 + 1 + 1, 0, none⟩) 1 1] := (show Held u7 (N + 1 + 1 + 1 + 1 + 1 + 1) 39 #[.int .u64 3, .slice (some ⟨N + 1 + 1 + 1 + 1, 0, none⟩) 1 1, .int .u64 2, .slice (some ⟨N + 1 + 1 + 1 + 1 + 1, 0, none⟩) 1 1] from by rw [← hu7, ← s6]; exact heap_alloc_new u6 _)
  have hb7 : Below N w u7 := (((((b1.trans (b2.mono (by omega))).trans (b3.mono (by omega))).trans (b4.mono (by omega))).trans (b5.mono (by omega))).trans (b6.mono (by omega))).trans (b7.mono (by omega))
  have hir : IRow u7 u7.heap.size (.slice (some ⟨N + 1 + 1, 0, none⟩) [(1 : Int)].length 1) [1] := one_int h2 (by omega)
  have hpr : PredRow u7 u7.heap.size (.slice (some ⟨N + 1 + 1 + 1, 0, none⟩) 1 1) [⟨⟨[112], [1]⟩, some ⟨N + 1 + 1, 0, none⟩, 1⟩] := one_pred (p := ⟨⟨[112], [1]⟩, some ⟨N + 1 + 1, 0, none⟩, 1⟩) h3 (by omega) hir (fits_one _ 1 (by omega) _ _ _ (.inr ⟨rfl, by omega, by omega⟩))
  have hgr : GRow u7 u7.heap.size (.slice (some ⟨N, 0, none⟩) 1 1) [g5] := ⟨held_row (us := flatG [g5]) h0 (by omega) (by unfold maxLen; omega), fun a ha => by obtain rfl := List.mem_singleton.1 ha; exact ⟨by simp, by simp, by decide, by decide⟩⟩
  have hem : ∀ d ∈ [(⟨0, [g5], some ⟨N, 0, none⟩, 1⟩ : Em)], d.Ok u7 u7.heap.size := fun d hd => by obtain rfl := List.mem_singleton.1 hd; exact ⟨hgr, show (-9223372036854775808 : Int) ≤ 0 ∧ (0 : Int) ≤ 9223372036854775807 by decide⟩
  have he4 : EvRow u7 u7.heap.size (.slice (some ⟨N + 1 + 1 + 1 + 1, 0, none⟩) 1 1) [⟨0, [g5], some ⟨N, 0, none⟩, 1⟩] := ⟨held_row (us := flatE [⟨0, [g5], some ⟨N, 0, none⟩, 1⟩]) h4 (by omega) (by unfold maxLen; omega), hem⟩
  have he5 : EvRow u7 u7.heap.size (.slice (some ⟨N + 1 + 1 + 1 + 1 + 1, 0, none⟩) 1 1) [⟨0, [g5], some ⟨N, 0, none⟩, 1⟩] := ⟨held_row (us := flatE [⟨0, [g5], some ⟨N, 0, none⟩, 1⟩]) h5 (by omega) (by unfold maxLen; omega), hem⟩
  have htr : TrRow u7 u7.heap.size (.slice (some ⟨N + 1 + 1 + 1 + 1 + 1 + 1, 0, none⟩) 2 2) [⟨3, [⟨0, [g5], some ⟨N, 0, none⟩, 1⟩], some ⟨N + 1 + 1 + 1 + 1, 0, none⟩, 1⟩, ⟨2, [⟨0, [g5], some ⟨N, 0, none⟩, 1⟩], some ⟨N + 1 + 1 + 1 + 1 + 1, 0, none⟩, 1⟩] :=
    ⟨held_row (us := flatN [⟨3, [⟨0, [g5], some ⟨N, 0, none⟩, 1⟩], some ⟨N + 1 + 1 + 1 + 1, 0, none⟩, 1⟩, ⟨2, [⟨0, [g5], some ⟨N, 0, none⟩, 1⟩], some ⟨N + 1 + 1 + 1 + 1 + 1, 0, none⟩, 1⟩]) h6 (by omega) (by unfold maxLen; omega), fun d hd => by
      rcases List.mem_cons.1 hd with rfl | hd
      · exact ⟨he4, show (0 : Int) ≤ 3 ∧ (3 : Int) < 18446744073709551616 by decide⟩
      · obtain rfl := List.mem_singleton.1 hd
        exact ⟨he5, show (0 : Int) ≤ 2 ∧ (2 : Int) < 18446744073709551616 by decide⟩⟩
  have hck := tcheck_any (some ⟨N + 1 + 1 + 1, 0, none⟩) 1 [⟨⟨[112], [1]⟩, some ⟨N + 1 + 1, 0, none⟩, 1⟩] (some ⟨N + 1 + 1 + 1 + 1 + 1 + 1, 0, none⟩) 2 [⟨3, [⟨0, [g5], some ⟨N, 0, none⟩, 1⟩], some ⟨N + 1 + 1 + 1 + 1, 0, none⟩, 1⟩, ⟨2, [⟨0, [g5], some ⟨N, 0, none⟩, 1⟩], some ⟨N + 1 + 1 + 1 + 1 + 1, 0, none⟩, 1⟩] u7 hpr htr
  rw [show (([⟨⟨[112], [1]⟩, some ⟨N + 1 + 1, 0, none⟩, 1⟩] : List Pd).map (·.p)) = [⟨[112], [1]⟩] from rfl, show (([⟨3, [⟨0, [g5], some ⟨N, 0, none⟩, 1⟩], some ⟨N + 1 + 1 + 1 + 1, 0, none⟩, 1⟩, ⟨2, [⟨0, [g5], some ⟨N, 0, none⟩, 1⟩], some ⟨N + 1 + 1 + 1 + 1 + 1, 0, none⟩, 1⟩] : List Pm).map (·.p)) = [⟨3, [⟨0, [⟨1, 5, []⟩]⟩]⟩, ⟨2, [⟨0, [⟨1, 5, []⟩]⟩]⟩] from rfl, trace_fixed] at hck
  have HCK := Lib.hid hck
  have HB7 := Lib.hid hb7
  clear h0 h1 h2 h3 h4 h5 h6 hir hpr hgr hem he4 he5 htr hck hb7 b1 b2 b3 b4 b5 b6 b7
  have HU := Lib.hid (And.intro hu1 (And.intro hu2 (And.intro hu3 (And.intro hu4 (And.intro hu5 (And.intro hu6 hu7))))))
  clear hu1 hu2 hu3 hu4 hu5 hu6 hu7
  go_enter Try.func8, Try.ntmps8
  go_wp2_with fail
  obtain ⟨hu1, hu2, hu3, hu4, hu5, hu6, hu7⟩ := HU.out
  rw [hu1, hu2, hu3, hu4, hu5, hu6, hu7]
  refine HCK.out.mono ?_
  rintro e w8 ⟨rfl, hb8⟩
  have HB8 := Lib.hid (HB7.out.trans (hb8.mono (by omega)))
  clear hb8 hu1 hu2 hu3 hu4 hu5 hu6 hu7
  go_wp2_with fail
  go_ret
  exact ⟨rfl, by rw [hN]; exact HB8.out⟩
#print axioms tfix12_any
end Go.Proofs.Ytcegnkbafbepbaa
