/-
  What sig.keyOf and sig.firsts answer: the number of the first predicate of each name, kept in a map.
-/
import Derived.Test.YtnjhkjlekepjoaaSigKey
namespace Go.Proofs.Ytnjhkjlekepjoaa
open Go.RowKit

/-- The map's entries behind the first k predicates: the first one of each name, with its number. -/
def Kept (ds : List Pd) (k : Nat) (L : List (List Int × Value)) : Prop :=
  (∀ p ∈ L, ∃ (j : Nat) (d : Pd), j < k ∧ ds[j]? = some d ∧ p = (d.p.name, .int .i64 j) ∧ ∀ (i : Nat) (q : Pd), i < j → ds[i]? = some q → q.p.name ≠ d.p.name) ∧
  ∀ (j : Nat) (d : Pd), j < k → ds[j]? = some d → ∃ p ∈ L, p.1 = d.p.name
theorem Kept.nil (ds : List Pd) : Kept ds 0 [] := ⟨fun p h => by simp at h, fun j _ h => absurd h (Nat.not_lt_zero _)⟩
/-- One more predicate: its name is there already, or it is put behind. -/
theorem Kept.step {ds : List Pd} {k : Nat} {L : List (List Int × Value)} {d : Pd} (h : Kept ds k L) (hd : ds[k]? = some d) :
    (∃ v, lookL d.p.name L = some v ∧ Kept ds (k + 1) L) ∨ (lookL d.p.name L = none ∧ (∀ p ∈ L, p.1 ≠ d.p.name) ∧ Kept ds (k + 1) (L ++ [(d.p.name, .int .i64 k)])) := by
  obtain ⟨h1, h2⟩ := h
  by_cases hin : ∃ p ∈ L, p.1 = d.p.name
  · left
    obtain ⟨q, _, _, hq⟩ := lookL_some hin
    refine ⟨q.2, hq, fun p hp => ?_, fun j e hj he => ?_⟩
    · obtain ⟨j, e, q1, q2, q3, q4⟩ := h1 p hp
      exact ⟨j, e, by omega, q2, q3, q4⟩
    · rcases Nat.lt_or_ge j k with h | h
      · exact h2 j e h he
      · obtain rfl : j = k := by omega
        rw [hd] at he
        injection he with he
        subst he
        exact hin
  · right
    have hno : ∀ p ∈ L, p.1 ≠ d.p.name := fun p hp e => hin ⟨p, hp, e⟩
    refine ⟨lookL_none hno, hno, fun p hp => ?_, fun j e hj he => ?_⟩
    · rcases List.mem_append.1 hp with hp | hp
      · obtain ⟨j, e, q1, q2, q3, q4⟩ := h1 p hp
        exact ⟨j, e, by omega, q2, q3, q4⟩
      · rw [List.mem_singleton] at hp
        refine ⟨k, d, by omega, hd, hp, fun i q hi hq e => ?_⟩
        obtain ⟨p2, hp2, e2⟩ := h2 i q hi hq
        exact hno p2 hp2 (e2.trans e)
    · rcases Nat.lt_or_ge j k with h | h
      · obtain ⟨p, hp, e2⟩ := h2 j e h he
        exact ⟨p, List.mem_append_left _ hp, e2⟩
      · obtain rfl : j = k := by omega
        rw [hd] at he
        injection he with he
        subst he
        exact ⟨_, List.mem_append_right _ (List.mem_singleton.2 rfl), rfl⟩
/-- What a look-up of any name comes to. -/
theorem Kept.look {ds : List Pd} {L : List (List Int × Value)} (h : Kept ds ds.length L) (nm : List Int) :
    (findP (ds.map (·.p)) nm = -1 ∧ lookL nm L = none) ∨ ∃ r : Nat, findP (ds.map (·.p)) nm = (r : Int) ∧ lookL nm L = some (.int .i64 r) ∧ r < ds.length := by
  obtain ⟨h1, h2⟩ := h
  rcases findP_ways (ds.map (·.p)) nm with ⟨e, hn⟩ | ⟨r, p, e, hp, hpn, hn⟩
  · left
    refine ⟨e, lookL_none fun q hq he => ?_⟩
    obtain ⟨j, d, _, q2, q3, _⟩ := h1 q hq
    exact hn j d.p (at_pr q2) (by rw [← he, q3])
  · right
    obtain ⟨d, hd, rfl⟩ := pr_at hp
    have hr := (List.getElem?_eq_some_iff.1 hd).1
    obtain ⟨q, hq, he⟩ := h2 r d hr hd
    obtain ⟨q', hq', he', hl⟩ := lookL_some ⟨q, hq, he.trans hpn⟩
    obtain ⟨j, d', q1, q2, q3, q4⟩ := h1 q' hq'
    have hj : j = r := by
      rcases Nat.lt_trichotomy j r with h | h | h
      · exact absurd (by rw [← he', q3]) (hn j d'.p h (at_pr q2))
      · exact h
      · exact absurd (by rw [hpn, ← he', q3]) (q4 r d h hd)
    subst hj
    exact ⟨j, e, by rw [hl, q3], hr⟩
theorem Kept.names {ds : List Pd} {k : Nat} {L : List (List Int × Value)} (h : Kept ds k L) (hb : ∀ d ∈ ds, ∀ x ∈ d.p.name, 0 ≤ x ∧ x < 256) : NamesB L := fun p hp => by
  obtain ⟨j, d, _, q2, rfl, _⟩ := h.1 p hp
  exact hb d (List.mem_of_getElem? q2)
theorem PredRow.bytes {w : World} {B : Nat} {v : Value} {ds : List Pd} (h : PredRow w B v ds) : ∀ d ∈ ds, ∀ x ∈ d.p.name, 0 ≤ x ∧ x < 256 := by
  obtain ⟨A, c, hv, h1, h2, h3, h4, h5⟩ := h
  exact fun d hd => (h5 d hd).2.2.1

set_option maxRecDepth 100000 in
theorem key_any (s : ByteArray) (A : Option Addr) (n c : Nat) (w : World) : Calls Try.prog 39 #[.agg #[.string s, .slice A n c]] w fun e w' => e = .returned (.agg #[.string s]) ∧ Below w.heap.size w w' := by
  go_enter Try.func39, Try.ntmps39
  go_wp2_with fail
  exact bodyPost_ret (v := .agg #[.string s]) (by simp [results, Try.results39, go_sem]) rfl ⟨rfl, ((Below.refl _ _).alloc (Nat.le_refl _) _).alloc (by simp) _⟩

theorem Try.infoInt : (Try.prog.info? 3).map (fun i => (i.zero, i.size, i.bytes)) = some (some (.int .i64 0), 1, 8) := by kernel_rfl
theorem zero_int (w : World) : (zeroValue 3).run Try.prog w = .ok (.int .i64 0) w := by
  obtain ⟨i0, hi, hz0, _, _⟩ := info_parts Try.infoInt
  simp [zeroValue, typeInfo, hi, hz0]
theorem Held.past {w : World} {g r : Nat} {t : TypeId} {cs : Array Value} (h : Held w g t cs) (hne : r ≠ g) (o : Obj) : Held (w.putObj r o) g t cs := by
  show (w.heap.setIfInBounds r o)[g]? = _
  rw [Array.getElem?_setIfInBounds_ne hne]
  exact h

set_option maxRecDepth 100000 in
set_option maxHeartbeats 2000000 in
theorem firsts_any (A : Option Addr) (c : Nat) (ds : List Pd) (w : World) (hrow : PredRow w w.heap.size (.slice A ds.length c) ds) :
    Calls Try.prog 37 #[.slice A ds.length c] w fun e w' => ∃ L, e = .returned (.map (some w.heap.size)) ∧ Kept ds ds.length L ∧ MapOf w' w.heap.size L ∧ Below w.heap.size w w' := by
  obtain ⟨_, hc1, hc2⟩ : ∃ _ : True, ds.length ≤ c ∧ c ≤ 9223372036854775807 := by
    obtain ⟨A', c', hv, q1, q2⟩ := hrow.form
    injection hv with _ _ e3
    exact ⟨trivial, by omega, by omega⟩
  have HBY := Lib.hid hrow.bytes
  have HROW := Lib.hid hrow
  clear hrow
  have hmm := @run_makeMap Try.prog
  go_enter Try.func37, Try.ntmps37
  go_wp2_with fail
  obtain ⟨r, hr⟩ : ∃ r, w.heap.size = r := ⟨_, rfl⟩
  have hm0 := MapOf.new w
  have hb0 : Below w.heap.size w (w.alloc (.map #[] 0)) := (Below.refl _ _).alloc (Nat.le_refl _) _
  rw [hr] at hm0 hb0 HROW ⊢
  have HM0 := Lib.hid hm0
  have HB0 := Lib.hid hb0
  clear hm0 hb0 hmm
  go_loopg [11] ds.length (fun gk i wr => ∃ (k : Nat) (L : List (List Int × Value)), k ≤ ds.length ∧ i = .int .i64 k ∧ Hid (ds.length - k = gk) ∧ Hid (Kept ds k L) ∧ Hid (MapOf wr r L) ∧ Hid (Below r w wr))
  case atStart => exact ⟨0, [], Nat.zero_le _, rfl, Lib.hid rfl, Lib.hid (Kept.nil ds), HM0, HB0⟩
  case round =>
    obtain ⟨k, L, hk, rfl, HGK, HK, HM, HBR⟩ := hrel
    have hlr := HM.out.lt
    by_cases hlt : k < ds.length
    · obtain ⟨d, hd⟩ : ∃ d, ds[k]? = some d := ⟨_, List.getElem?_eq_getElem hlt⟩
      have HST := Lib.hid (HK.out.step hd)
      obtain ⟨b, o, rfl, hb, x0, x1, hir, hfit, ha1, ha2⟩ := (HROW.out.below HBR.out).at hd
      have HNB := Lib.hid (HK.out.names HBY.out)
      have HFT := Lib.hid hfit.2.1
      obtain ⟨dA, hdA⟩ : ∃ dA, d.A = dA := ⟨_, rfl⟩
      rw [hdA] at x1
      obtain ⟨w1, hw1⟩ : ∃ w1, wr.alloc (.cells #[.string (strOfNums d.p.name), .slice dA d.p.args.length d.c] 45) = w1 := ⟨_, rfl⟩
      have s1 : w1.heap.size = wr.heap.size + 1 := by rw [← hw1]; simp
      have b1 : Below wr.heap.size wr w1 := by rw [← hw1]; exact (Below.refl _ _).alloc (Nat.le_refl _) _
      have h1 : Held w1 wr.heap.size 45 #[.string (strOfNums d.p.name), .slice dA d.p.args.length d.c] := by rw [← hw1]; exact heap_alloc_new wr _
      have HP1 := Lib.hid h1
      have HM1 := Lib.hid (HM.out.below b1 hlr)
      have HB1 := Lib.hid (HBR.out.trans (b1.mono (Nat.le_of_lt hlr)))
      have p0 := h1.cell 0
      have p1 := h1.cell 1
      have hl1 : wr.heap.size < w1.heap.size := by omega
      simp at p0 p1
      have HKY := Lib.hid (fun W => key_any (strOfNums d.p.name) dA d.p.args.length d.c W)
      clear h1 b1 hir hfit hd hdA
      go_wp2_with fail
      refine (HKY.out _).mono ?_
      rintro e w2 ⟨rfl, hb2⟩
      have hz2 : w1.heap.size ≤ w2.heap.size := hb2.size
      have HM2 := Lib.hid (HM1.out.below hb2 (by omega))
      have HB2 := Lib.hid (HB1.out.trans (hb2.mono (by omega)))
      have HP2 := Lib.hid (HP1.out.below hb2 (by omega))
      have hlk := HM2.out.look HNB.out HFT.out (t := 72) Try.underlying72 (zero_int w2) true
      rcases HST.out with ⟨v, h3, hk3⟩ | ⟨h3, h4, hk3⟩
      · rw [h3] at hlk
        have HK3 := Lib.hid hk3
        simp only [if_true] at hlk
        clear hb2 hk3 h3 x0 x1
        go_wp2_with fail
        go_roundg (ds.length - (k + 1))
        case measure => have := HGK.out; omega
        case rel => exact ⟨k + 1, L, by omega, by go_num, Lib.hid rfl, HK3, HM2, HB2⟩
      · rw [h3] at hlk
        have HK3 := Lib.hid hk3
        have H4 := Lib.hid h4
        have p0' := HP2.out.cell 0
        have p1' := HP2.out.cell 1
        have hl2 := HP2.out.lt
        simp at p0' p1'
        simp only [if_true] at hlk
        clear hb2 hk3 h3 h4 x0 x1 p0 p1
        go_wp2_with fail
        refine (HKY.out _).mono ?_
        rintro e w3 ⟨rfl, hb3⟩
        have hz3 : w2.heap.size ≤ w3.heap.size := hb3.size
        have HM3 := Lib.hid (HM2.out.below hb3 (by omega))
        have HB3 := Lib.hid (HB2.out.trans (hb3.mono (by omega)))
        obtain ⟨ob, hup, hmo⟩ := HM3.out.add HNB.out HFT.out (t := 72) Try.underlying72 H4.out (.int .i64 k)
        have HMO := Lib.hid hmo
        clear hb3 hmo hlk p0' p1'
        go_wp2_with fail
        go_roundg (ds.length - (k + 1))
        case measure => have := HGK.out; omega
        case rel => exact ⟨k + 1, _, by omega, by go_num, Lib.hid rfl, HK3, HMO, Lib.hid (below_putObj HB3.out (Nat.le_refl _) ob)⟩
    · obtain rfl : k = ds.length := by omega
      go_wp2_with fail
      go_ret
      subst hr
      exact ⟨L, rfl, HK.out, HM.out, HBR.out⟩
#print axioms firsts_any
end Go.Proofs.Ytnjhkjlekepjoaa
