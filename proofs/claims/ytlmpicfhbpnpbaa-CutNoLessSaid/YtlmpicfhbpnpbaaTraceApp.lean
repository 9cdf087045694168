/-
  Appends of elements of several cells behind a row of the call's own; the last points of a trace. No function of the program here.
-/
import Derived.Test.YtlmpicfhbpnpbaaTraceRows
namespace Go.Proofs.Ytlmpicfhbpnpbaa
open Go.RowKit Go.ChangeShapes Go.WideShapes

theorem Try.infoArg : (Try.prog.info? 61).map (fun i => (i.zero, i.size, i.bytes)) = some (some (.agg #[.int .i64 0, .int .i64 0, .string ⟨#[]⟩]), 3, 32) := by kernel_rfl
theorem Try.infoEvent : (Try.prog.info? 42).map (fun i => (i.zero, i.size, i.bytes)) = some (some (.agg #[.int .i64 0, .slice none 0 0]), 2, 32) := by kernel_rfl
theorem Try.infoPoint : (Try.prog.info? 39).map (fun i => (i.zero, i.size, i.bytes)) = some (some (.agg #[.int .u64 0, .slice none 0 0]), 2, 32) := by kernel_rfl

theorem own_none {w : World} {base : Nat} {e : TypeId} {size : Nat} (hb : base ≤ w.heap.size) : (w.alloc (.cells #[] e)).ownsRow base e size (.slice (some ⟨w.heap.size, 0, none⟩) 0 0) 0 [] :=
  ⟨by simp, .inr ⟨w.heap.size, 0, #[], rfl, hb, heap_alloc_new w _, Nat.le_refl _, Nat.zero_le _, by simp, by simp⟩⟩
/-- A block that was just laid, as a row. -/
theorem ERow.held {w : World} {g B n : Nat} {t : TypeId} {us : List Value} (h : Held w g t us.toArray) (hB : g < B) (hn : n ≤ maxLen) : ERow w B (.slice (some ⟨g, 0, none⟩) n n) n us :=
  ⟨_, _, rfl, Nat.le_refl _, hn, by simp, fun _ => ⟨g, 0, rfl, hB, fun i u hi => by rw [Nat.zero_add, h.cell i]; simpa using hi⟩⟩
theorem ERow.new (w : World) (t : TypeId) (us : List Value) {n : Nat} (hn : n ≤ maxLen) : ERow (w.alloc (.cells us.toArray t)) (w.alloc (.cells us.toArray t)).heap.size (.slice (some ⟨w.heap.size, 0, none⟩) n n) n us :=
  ERow.held (t := t) (heap_alloc_new w _) (by simp) hn

/-- append of any row behind a row of the call's own. -/
theorem run_append_erow {P : Program} (w : World) (base : Nat) (t ty e : TypeId) (i : TypeInfo) (z : Value) (size bytes : Nat) (ht : P.underlying t = some (.slice e)) (hi : P.info? e = some i) (hz : i.zero = some z)
    (hsize : i.size = size) (hby : i.bytes = bytes) (hzs : z.cells.size = size) (hsz : 0 < size) (v : Value) (n : Nat) (xs : List Value) (hown : w.ownsRow base e size v n xs)
    (B : Nat) (sv : Value) (m : Nat) (us : List Value) (hr : ERow w B sv m us) (hl : us.length = m * size) (h1 : ∀ u ∈ us, u.oneCell' = true) (h63 : n + m ≤ maxLen) (hbytes : (n + m) * bytes ≤ 140737488355328) (hbase : base ≤ w.heap.size) :
    ∃ v' w', (Builtin.append_ #[t, t] ty #[v, sv]).run P w = .ok v' w' ∧ w'.ownsRow base e size v' (n + m) (xs ++ us) ∧ w.grownBy w' v.ownBlock := by
  obtain ⟨A, c, rfl, q1, q2, q3, q4⟩ := hr
  rcases A with _ | ad
  · obtain rfl := q3 rfl
    obtain rfl : m = 0 := by omega
    have hu : us = [] := List.eq_nil_of_length_eq_zero (by omega)
    subst hu
    refine ⟨v, w, run_append_owned_none w base t ty e i size ht hi v n xs hown, by rw [Nat.add_zero, List.append_nil]; exact hown, World.grownBy.refl _ _⟩
  · obtain ⟨v', w', r1, r2, r3, _⟩ := run_append_own_at (P := P) w base t ty e i z size bytes ht hi hz hsize hby hzs hsz v n xs hown ad m c us hl (fun j u hu => by
      have hj := (List.getElem?_eq_some_iff.1 hu).1
      have hm : 0 < m := by
        rcases Nat.eq_zero_or_pos m with h | h
        · rw [h] at hl; omega
        · exact h
      obtain ⟨b, o, he, _, hc⟩ := q4 hm
      injection he with he
      subst he
      rw [add_plain]
      exact hc j u hu) h1 h63 hbytes hbase
    exact ⟨v', w', r1, r2, r3⟩
section
variable {P : Program} {w : World} {ops : Array Oper} {o : Oper} {a : Act} {Q : Exit → Act → World → Prop} {K : Act → World → Prop} {E : Prop}
theorem step_append_erow (hgd : o.guard = none) (s x : Operand) (t e : TypeId) (ho : o.op = .call { callee := .builtin .append, args := #[s, x], argTypes := #[t, t] })
    (base : Nat) (i : TypeInfo) (z : Value) (size bytes : Nat) (ht : P.underlying t = some (.slice e)) (hi : P.info? e = some i) (hz : i.zero = some z) (hsize : i.size = size) (hby : i.bytes = bytes) (hzs : z.cells.size = size) (hsz : 0 < size)
    (v : Value) (n : Nat) (xs : List Value) (hs : a.eval s = v) (hown : w.ownsRow base e size v n xs) (B : Nat) (sv : Value) (m : Nat) (us : List Value) (hx : a.eval x = sv) (hr : ERow w B sv m us) (hl : us.length = m * size) (h1 : ∀ u ∈ us, u.oneCell' = true)
    (h63 : n + m ≤ maxLen) (hbytes : (n + m) * bytes ≤ 140737488355328) (hbase : base ≤ w.heap.size) (N : Nat) (hN : n + m = N) (ys : List Value) (hys : xs ++ us = ys)
    (h : ∀ A c w', w'.ownsRow base e size (.slice A N c) N ys → w.grownBy w' v.ownBlock → K (a.put o.dst (.slice A N c)) w') : if Region.wanted o (yielded ops a.tmps) = true then Oper.wp P o a w K Q else E := by
  subst hN hys
  have hw : Region.wanted o (yielded ops a.tmps) = true := by simp [Region.wanted, hgd]
  obtain ⟨v', w', hrun, h2, h3⟩ := run_append_erow (P := P) w base t o.type e i z size bytes ht hi hz hsize hby hzs hsz v n xs hown B sv m us hr hl h1 h63 hbytes hbase
  obtain ⟨A, c, rfl⟩ := own_form h2
  rw [if_pos hw]
  unfold Oper.wp execOp
  simp only [ho, resolve, invoke, builtin, Sem.run_bind, Sem.run_pure, Result.andThen_ok, List.map_toArray, List.map_cons, List.map_nil, hs, hx, hrun]
  exact h A c w' h2 h3
end
theorem oneN : ∀ (l : List Pm), ∀ u ∈ flatN l, u.oneCell' = true
  | [], u, h => by simp [flatN] at h
  | d :: l, u, h => by
    rw [flatN] at h
    rcases List.mem_cons.1 h with rfl | h
    · rfl
    · rcases List.mem_cons.1 h with rfl | h
      · rfl
      · exact oneN l u h
theorem oneE : ∀ (l : List Em), ∀ u ∈ flatE l, u.oneCell' = true
  | [], u, h => by simp [flatE] at h
  | d :: l, u, h => by
    rw [flatE] at h
    rcases List.mem_cons.1 h with rfl | h
    · rfl
    · rcases List.mem_cons.1 h with rfl | h
      · rfl
      · exact oneE l u h
theorem oneG : ∀ (l : List Ag), ∀ u ∈ flatG l, u.oneCell' = true
  | [], u, h => by simp [flatG] at h
  | d :: l, u, h => by
    rw [flatG] at h
    rcases List.mem_cons.1 h with rfl | h
    · rfl
    · rcases List.mem_cons.1 h with rfl | h
      · rfl
      · rcases List.mem_cons.1 h with rfl | h
        · rfl
        · exact oneG l u h
theorem TrRow.drop {w : World} {B : Nat} {A A' : Option Addr} {n c k : Nat} {l : List Pm} (h : TrRow w B (.slice A n c) l) (hk : k ≤ l.length) (hA : c = k ∨ A' = A.map (fun x => x.add (k * 2))) :
    TrRow w B (.slice A' (l.length - k) (c - k)) (l.drop k) := by
  obtain ⟨⟨A1, c1, hv, h1, h2, h3, h4⟩, h5⟩ := h
  injection hv with e1 e2 e3
  subst e1 e3
  have hl : (l.drop k).length = l.length - k := List.length_drop
  refine ⟨⟨A', c - k, by rw [hl], by omega, by omega, fun e => ?_, fun hn => ?_⟩, fun d hd => h5 d (List.mem_of_mem_drop hd)⟩
  · rcases hA with hA | hA
    · omega
    · rw [e] at hA
      cases A with
      | none => have := h3 rfl; omega
      | some a => cases hA
  · rw [hl] at hn
    obtain ⟨b, o, e, hb, hc⟩ := h4 (by omega)
    rcases hA with hA | hA
    · omega
    · refine ⟨b, o + k * 2, by rw [hA, e, Option.map_some, add_plain], hb, fun i u hi => ?_⟩
      rw [flatN_drop, List.getElem?_drop] at hi
      have := hc _ u hi
      rwa [← Nat.add_assoc] at this
#print axioms TrRow.drop
end Go.Proofs.Ytlmpicfhbpnpbaa
