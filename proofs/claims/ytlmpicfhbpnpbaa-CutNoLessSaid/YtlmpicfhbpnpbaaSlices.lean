/-
  Slices of bytes, of texts, of cells: what such a one reads as, and how that is kept. No program here.
-/
import Derived.Laws.BytesArg
import Derived.OpenShut
import Derived.Laws.OwnMore
import Derived.OwnWalkIn
import Derived.Below
import Derived.Deep.Draws
import Derived.Shelf.Bytes.SlEqualAll
import Derived.Maps.AppendAt
import Derived.RangeFuncNested
import Derived.RangeFuncBox
import Derived.Lib.ConvBytes
import Derived.Lib.AppendStr
import Derived.Deep.AppendLies
namespace Go.Proofs.Ytlmpicfhbpnpbaa
open Go.RowKit

/-- The byte at a place of such a text. -/
theorem str_at (xs : List Int) (hb : ∀ x ∈ xs, 0 ≤ x ∧ x < 256) (k : Nat) (hk : k < xs.length) (h : k < (strOfNums xs).size) : ((strOfNums xs)[k].toNat : Int) = xs.getD k 0 := by
  have e : (strOfNums xs)[k] = UInt8.ofNat (xs.getD k 0).toNat := by
    show (strOfNums xs).data[k] = _
    simp [strOfNums, List.getD, List.getElem?_eq_getElem hk]
  have hx : xs.getD k 0 ∈ xs := by rw [List.getD, List.getElem?_eq_getElem hk]; simp
  have := hb _ hx
  rw [e, UInt8.toNat_ofNat']
  omega

end Go.Proofs.Ytlmpicfhbpnpbaa

namespace Go.Proofs.Ytlmpicfhbpnpbaa
open Go.RowKit

/-- The slice value v reads as the bytes xs; they lie in a block below B. -/
def Row (w : World) (B : Nat) (v : Value) (xs : List Int) : Prop :=
  ∃ A c, v = .slice A xs.length c ∧ xs.length ≤ c ∧ c ≤ maxLen ∧ (A = none → c = 0) ∧
    (0 < xs.length → ∃ b o, A = some ⟨b, o, none⟩ ∧ b < B ∧ ∀ i, i < xs.length → w.cell? ⟨b, o + i, none⟩ = some (.int .u8 (xs.getD i 0)))

section
variable {w w' : World} {B B' : Nat} {v : Value} {xs : List Int}
theorem Row.keep (h : Row w B v xs) (hk : ∀ p : Addr, p.block < B → w'.cell? p = w.cell? p) : Row w' B v xs := by
  obtain ⟨A, c, hv, h1, h2, h3, h4⟩ := h
  refine ⟨A, c, hv, h1, h2, h3, fun hn => ?_⟩
  obtain ⟨b, o, e, hb, hc⟩ := h4 hn
  exact ⟨b, o, e, hb, fun i hi => (hk ⟨b, o + i, none⟩ hb).trans (hc i hi)⟩
theorem Row.below (h : Row w B v xs) (hb : Below B w w') : Row w' B v xs := h.keep fun _ hp => hb.cell hp
theorem Row.more (h : Row w B v xs) (hB : B ≤ B') : Row w B' v xs := by
  obtain ⟨A, c, hv, h1, h2, h3, h4⟩ := h
  refine ⟨A, c, hv, h1, h2, h3, fun hn => ?_⟩
  obtain ⟨b, o, e, hb, hc⟩ := h4 hn
  exact ⟨b, o, e, by omega, hc⟩
theorem Row.nil (w : World) (B : Nat) : Row w B (.slice none 0 0) [] := ⟨none, 0, rfl, Nat.le_refl _, Nat.zero_le _, fun _ => rfl, fun h => absurd h (by simp)⟩
theorem Row.of_own {base : Nat} {e : TypeId} {n : Nat} (h : w.ownsRow base e 1 v n (xs.map (.int .u8))) : Row w w.heap.size v xs := by
  have hl : xs.length = n := by have := h.1; simpa using this
  subst hl
  have h' := h
  rcases h.2 with ⟨rfl, h0⟩ | ⟨g, cap, cur, rfl, _, hg, hnc, hcm, _, _⟩
  · obtain rfl : xs = [] := List.eq_nil_of_length_eq_zero h0
    exact Row.nil _ _
  · refine ⟨some ⟨g, 0, none⟩, cap, rfl, hnc, hcm, by simp, fun _ => ⟨g, 0, rfl, (Array.getElem?_eq_some_iff.1 hg).1, fun i hi => ?_⟩⟩
    rw [show 0 + i = i by omega, h'.cellAt i (by omega)]
    simp [List.getElem?_map, List.getElem?_eq_getElem hi, List.getD]
theorem Row.take {A : Option Addr} {n c : Nat} (h : Row w B (.slice A n c) xs) {k : Nat} (hk : k ≤ xs.length) : Row w B (.slice A (xs.take k).length c) (xs.take k) := by
  obtain ⟨A', c', hv, h1, h2, h3, h4⟩ := h
  injection hv with e1 e2 e3
  subst e1 e3
  have hl : (xs.take k).length = k := by simp; omega
  refine ⟨A, c, rfl, by omega, h2, h3, fun hn => ?_⟩
  obtain ⟨b, o, e, hb, hc⟩ := h4 (by omega)
  refine ⟨b, o, e, hb, fun i hi => ?_⟩
  rw [hc i (by omega)]
  simp only [List.getD, List.getElem?_take]
  rw [if_pos (by omega)]
theorem Row.bytesIn (h : Row w B v xs) : ∃ A c, v = .slice A xs.length c ∧ Lib.BytesIn w A xs.length xs := by
  obtain ⟨A, c, hv, _, _, _, h4⟩ := h
  exact ⟨A, c, hv, fun hn => by obtain ⟨b, o, e, _, hc⟩ := h4 hn; exact ⟨b, o, e, hc⟩⟩
theorem Row.convert {P : Program} (h : Row w B v xs) (src e dst : TypeId) (hs : P.underlying src = some (.slice e)) (he : P.underlying e = some (.int .u8)) (hd : P.underlying dst = some .string) :
    (convert src dst v).run P w = .ok (.string (strOfNums xs)) w := by
  obtain ⟨A, c, rfl, hb⟩ := h.bytesIn
  exact hb.convert rfl c src e dst hs he hd
end

/-- append, of what such a slice reads as, behind a row of the call's own. -/
theorem run_append_row {P : Program} (w : World) (base : Nat) (t ty e : TypeId) (i : TypeInfo) (z : Value) (ht : P.underlying t = some (.slice e)) (hi : P.info? e = some i) (hz : i.zero = some z)
    (hsize : i.size = 1) (hby : i.bytes = 1) (hzs : z.cells.size = 1)
    (v : Value) (n : Nat) (us : List Value) (hown : w.ownsRow base e 1 v n us) (B : Nat) (sv : Value) (xs : List Int) (hr : Row w B sv xs)
    (hlen : n + xs.length ≤ 140737488355328) (hbase : base ≤ w.heap.size) :
    ∃ v' w', (Builtin.append_ #[t, t] ty #[v, sv]).run P w = .ok v' w' ∧ w'.ownsRow base e 1 v' (n + xs.length) (us ++ xs.map (.int .u8)) ∧ w.grownBy w' v.ownBlock ∧ (v' = .slice none 0 0 ↔ v = .slice none 0 0 ∧ xs.length = 0) := by
  obtain ⟨A, c, rfl, h1, h2, h3, h4⟩ := hr
  rcases A with _ | ad
  · have hx : xs = [] := by
      rcases Nat.eq_zero_or_pos xs.length with h0 | h0
      · exact List.eq_nil_of_length_eq_zero h0
      · obtain ⟨b, o, he, _⟩ := h4 h0
        cases he
    subst hx
    obtain rfl := h3 rfl
    exact ⟨v, w, run_append_owned_none w base t ty e i 1 ht hi v n us hown, by simpa using hown, World.grownBy.refl w _, by simp⟩
  · refine run_append_own w base t ty e i z 1 1 ht hi hz hsize hby hzs (by omega) v n us hown ad xs.length c (xs.map (.int .u8)) (by simp) (fun j u hu => ?_) (fun u hu => ?_) (by simp only [maxLen]; omega) (by omega) hbase
    · have hj : j < xs.length := by
        have := (List.getElem?_eq_some_iff.1 hu).1
        simpa using this
      obtain ⟨b, o, he, _, hc⟩ := h4 (by omega)
      obtain rfl : ad = ⟨b, o, none⟩ := by injection he
      have hu' : u = .int .u8 (xs.getD j 0) := by
        rw [List.getElem?_map, List.getElem?_eq_getElem hj] at hu
        simp at hu
        simp [List.getD, List.getElem?_eq_getElem hj, hu]
      rw [hu', ← hc j hj, Go.WideShapes.add_plain]
    · obtain ⟨x, _, rfl⟩ := List.mem_map.1 hu
      simp [Value.oneCell']

/-- The same as a step of a walk inside a fence. -/
theorem wpListIn_append_row {F : Fence} {n : Nat} {P : Program} (w : World) {ops : Array Oper} {rest : List Oper} {o : Oper} {a : Act} {Q : Exit → Act → World → Prop}
    (hg : o.guard = none) (s x : Operand) (t : TypeId) (hop : o.op = Op.call { callee := Callee.builtin Builtin.append, args := #[s, x], argTypes := #[t, t] })
    (base : Nat) (e : TypeId) (i : TypeInfo) (z : Value) (h1 : P.underlying t = some (.slice e)) (h2 : P.info? e = some i) (h3 : i.zero = some z) (h4 : i.size = 1) (h5 : i.bytes = 1) (h6 : z.cells.size = 1)
    (v : Value) (k : Nat) (us : List Value) (hs : a.eval s = v) (hown : w.ownsRow base e 1 v k us) (B : Nat) (sv : Value) (xs : List Int) (hx : a.eval x = sv) (hr : Row w B sv xs)
    (b2 : k + xs.length ≤ 140737488355328) (b3 : base ≤ w.heap.size)
    (hK : ∀ v' w', w'.ownsRow base e 1 v' (k + xs.length) (us ++ xs.map (.int .u8)) → w.grownBy w' v.ownBlock → (v' = .slice none 0 0 ↔ v = .slice none 0 0 ∧ xs.length = 0) → wpListIn F n P ops Q rest (a.put o.dst v') w') :
    wpListIn F n P ops Q (o :: rest) a w := by
  refine wpListIn_plain hg fun K hK' => ?_
  obtain ⟨v', w', hrun, r1, r2, r3⟩ := run_append_row (P := P) w base t o.type e i z h1 h2 h3 h4 h5 h6 v k us hown B sv xs hr b2 b3
  unfold Oper.wpIn
  refine ⟨?_, ?_⟩
  · simp [Oper.about, hop, resolve, Target.leads, Sem.run_pure]
  · rw [Oper.semAt_plain F _ _ (by rw [hop]; intro c hc'; cases hc')]
    simp [execOp, hop, resolve, invoke, builtin, hs, hx, hrun, Result.andThen]
    exact hK' _ _ (hK v' w' r1 r2 r3)

/-- A variable's box, and the slice in it, behind an append of what another slice reads as, stored back. -/
theorem boxed_grown {W w1 : World} {n₀ B : Nat} {t e : TypeId} {size : Nat} {v v' : Value} {k m : Nat} {xs ys : List Value}
    (hv : Boxed W B t v) (hte : t ≠ e) (hrow : W.ownsRow n₀ e size v k xs) (hn₀ : n₀ ≤ W.heap.size) (hB : n₀ ≤ B)
    (hown' : w1.ownsRow n₀ e size v' m ys) (hgrow : W.grownBy w1 v.ownBlock) :
    Boxed w1 B t v ∧ Boxed (w1.setCell ⟨B, 0, none⟩ v') B t v' ∧ (w1.setCell ⟨B, 0, none⟩ v').ownsRow n₀ e size v' m ys ∧ Below n₀ W (w1.setCell ⟨B, 0, none⟩ v') := by
  have hv1 : Boxed w1 B t v := hv.kept hgrow (hv.not_row hte hrow)
  refine ⟨hv1, hv1.set v', hown'.kept (grownBy_setCell' w1 B v') (.inr (hv1.not_row hte hown').symm), ?_⟩
  refine ((Below.refl n₀ W).grown hgrow hn₀ fun j ej => ?_).setCell (p := ⟨B, 0, none⟩) hB v'
  exact (hrow.lt j ej).1
/-- A slice that owns a row, and isn't nil, is written out. -/
theorem ownsRow_some {W : World} {base : Nat} {e : TypeId} {size : Nat} {v : Value} {k : Nat} {xs : List Value} (h : W.ownsRow base e size v k xs) (hne : v ≠ .slice none 0 0) : ∃ g cap, v = .slice (some ⟨g, 0, none⟩) k cap := by
  rcases h.2 with ⟨h0, _⟩ | ⟨g, cap, _, rfl, _⟩
  · exact absurd h0 hne
  · exact ⟨g, cap, rfl⟩
end Go.Proofs.Ytlmpicfhbpnpbaa

namespace Go.Proofs.Ytlmpicfhbpnpbaa
open Go.RowKit

/-- A slice of integers that came in: it is nil, or it leads to cells. -/
def IsRow (k : IntKind) (w : World) (a : Option Addr) (len cap : Nat) (zs : List Int) : Prop :=
  (a = none ∧ len = 0 ∧ cap = 0 ∧ zs = []) ∨
  ∃ x, a = some x ∧ len ≤ cap ∧ cap ≤ maxLen ∧ zs.length = cap ∧ (∀ i, i < zs.length → w.cell? (x.add i) = some (.int k (zs.getD i 0))) ∧ ∀ n ∈ zs, (Lit.int k n).wf = true

theorem Row.of_arg {w : World} {a : Option Addr} {len cap : Nat} {zs : List Int} (h : IsRow .u8 w a len cap zs) :
    ∃ xs : List Int, xs.length = len ∧ Row w w.heap.size (.slice a len cap) xs ∧ ∀ x ∈ xs, 0 ≤ x ∧ x < 256 := by
  rcases h with ⟨rfl, rfl, rfl, rfl⟩ | ⟨x, rfl, hl, hm, hz, hc, hw⟩
  · exact ⟨[], rfl, Row.nil _ _, by simp⟩
  · have hlen : (zs.take len).length = len := by simp; omega
    refine ⟨zs.take len, hlen, ⟨some x, cap, by rw [hlen], by omega, hm, by simp, fun hn => ?_⟩, fun y hy => ?_⟩
    · obtain ⟨b, o, sp⟩ := x
      have h0 := hc 0 (by omega)
      have hs : sp = none := by simpa [Addr.add] using World.cell?_spot h0
      subst hs
      refine ⟨b, o, rfl, World.block_lt_of_cell? w ⟨b, o, none⟩ (by simpa [Addr.add] using h0), fun i hi => ?_⟩
      have hi' := hc i (by omega)
      rw [Go.WideShapes.add_plain] at hi'
      rw [hi']
      simp only [List.getD, List.getElem?_take]
      rw [if_pos (by omega)]
    · have := bounds_u8 (hw y (List.mem_of_mem_take hy))
      omega

/-- []byte(s). -/
theorem conv_bytes {P : Program} (w : World) (src dst e : TypeId) (hs : P.underlying src = some .string) (hd : P.underlying dst = some (.slice e)) (he : P.underlying e = some (.int .u8))
    (xs : List Int) (hb : ∀ x ∈ xs, 0 ≤ x ∧ x < 256) (hl : xs.length ≤ 9223372036854775807) :
    ∃ A c W', (convert src dst (.string (strOfNums xs))).run P w = .ok (.slice A xs.length c) W' ∧ Row W' W'.heap.size (.slice A xs.length c) xs ∧ Below w.heap.size w W' := by
  have h := Lib.run_convert_string_bytes (P := P) w src dst e (strOfNums xs) hs hd he
  have hsz := strOfNums_size xs
  rw [hsz] at h
  refine ⟨_, _, _, h, ⟨_, _, rfl, grownCap_ge _ _ _ _, grownCap_le_maxLen _ _ _ _ (by simp only [maxLen]; omega), by simp, fun hn => ?_⟩, ?_⟩
  · refine ⟨w.heap.size, 0, rfl, by rw [Lib.bytesWorld_size]; omega, fun i hi => ?_⟩
    rw [Nat.zero_add, Lib.bytesWorld_cell w e _ i (by omega)]
    have hx : xs.getD i 0 ∈ xs := by rw [List.getD, List.getElem?_eq_getElem hi]; simp
    have hx' := hb _ hx
    have e1 : (strOfNums xs).data.toList.getD i 0 = UInt8.ofNat (xs.getD i 0).toNat := by
      rw [strOfNums_data]
      simp [List.getD, List.getElem?_map, List.getElem?_eq_getElem hi]
    have e2 : ((UInt8.ofNat (xs.getD i 0).toNat).toNat : Int) = xs.getD i 0 := by rw [UInt8.toNat_ofNat']; omega
    rw [e1, e2]
  · exact ⟨rfl, rfl, rfl, by rw [Lib.bytesWorld_size]; omega, fun i hi => Lib.bytesWorld_at_old w e _ i hi⟩

theorem str_append (k l : List Int) : strOfNums k ++ strOfNums l = strOfNums (k ++ l) := by
  apply ByteArray.ext
  simp [strOfNums]
/-- '+' of two such texts. -/
theorem add_strs {P : Program} (W : World) (k l : List Int) (h : k.length + l.length ≤ 9223372036854775807) : (Op.stringOp .add (strOfNums k) (strOfNums l)).run P W = .ok (.string (strOfNums (k ++ l))) W := by
  rw [run_string_add_sum (P := P) (w := W) _ _ (by rw [strOfNums_size, strOfNums_size]; exact h), str_append]
end Go.Proofs.Ytlmpicfhbpnpbaa

namespace Go.Proofs.Ytlmpicfhbpnpbaa
open Go.RowKit

/-- A text's bytes as numbers. -/
def numsOf (s : ByteArray) : List Int := s.data.toList.map fun b => (b.toNat : Int)
theorem numsOf_length (s : ByteArray) : (numsOf s).length = s.size := by rw [numsOf, List.length_map, Array.length_toList]; rfl
theorem numsOf_bytes (s : ByteArray) : ∀ x ∈ numsOf s, 0 ≤ x ∧ x < 256 := by
  intro x hx
  obtain ⟨b, _, rfl⟩ := List.mem_map.1 hx
  have := b.toNat_lt
  omega
theorem str_numsOf (s : ByteArray) : strOfNums (numsOf s) = s := by
  apply ByteArray.ext
  apply Array.ext'
  rw [strOfNums_data]
  simp only [numsOf, List.map_map]
  conv => rhs; rw [← List.map_id s.data.toList]
  apply List.map_congr_left
  intro b _
  simp
theorem text_of (s : ByteArray) : ∃ xs : List Int, s = strOfNums xs ∧ xs.length = s.size ∧ ∀ x ∈ xs, 0 ≤ x ∧ x < 256 := ⟨numsOf s, (str_numsOf s).symm, numsOf_length s, numsOf_bytes s⟩

theorem nums_str (xs : List Int) (hb : ∀ x ∈ xs, 0 ≤ x ∧ x < 256) : numsOf (strOfNums xs) = xs := by
  rw [numsOf, strOfNums_data, List.map_map]
  conv => rhs; rw [← List.map_id xs]
  apply List.map_congr_left
  intro x hx
  have := hb x hx
  simp only [Function.comp, id]
  rw [UInt8.toNat_ofNat']
  omega
theorem str_inj {xs ys : List Int} (hx : ∀ x ∈ xs, 0 ≤ x ∧ x < 256) (hy : ∀ y ∈ ys, 0 ≤ y ∧ y < 256) (h : strOfNums xs = strOfNums ys) : xs = ys := by
  rw [← nums_str xs hx, ← nums_str ys hy, h]
theorem strCells_nums (xs : List Int) (hb : ∀ x ∈ xs, 0 ≤ x ∧ x < 256) : Lib.strCells (strOfNums xs) = xs.map (.int .u8) := by
  have h : Lib.strCells (strOfNums xs) = (numsOf (strOfNums xs)).map (.int .u8) := by simp [Lib.strCells, numsOf]
  rw [h, nums_str xs hb]
theorem str_cut (xs : List Int) (i j : Nat) : (strOfNums xs).extract i j = strOfNums ((xs.take j).drop i) := by
  apply ByteArray.ext
  apply Array.ext'
  rw [strOfNums_data, ByteArray.data_extract, Array.toList_extract, strOfNums_data]
  simp [List.map_take, List.map_drop, List.extract_eq_take_drop, List.drop_take]

/-- A slice without its front. -/
theorem Row.drop {w : World} {B : Nat} {A : Option Addr} {n c : Nat} {xs : List Int} (h : Row w B (.slice A n c) xs) {k : Nat} (hk : k ≤ xs.length) :
    Row w B (.slice (if c = k then A else A.map (·.add k)) (xs.drop k).length (c - k)) (xs.drop k) := by
  obtain ⟨A', c', hv, h1, h2, h3, h4⟩ := h
  injection hv with e1 e2 e3
  subst e1 e3
  have hl : (xs.drop k).length = xs.length - k := by simp
  refine ⟨_, _, rfl, by omega, by omega, fun h => ?_, fun hn => ?_⟩
  · by_cases e : c = k
    · omega
    · rw [if_neg e] at h
      cases A with
      | none => have := h3 rfl; omega
      | some a => simp at h
  · obtain ⟨b, o, rfl, hb, hc⟩ := h4 (by omega)
    rw [if_neg (by omega)]
    refine ⟨b, o + k, ?_, hb, fun i hi => ?_⟩
    · rw [Option.map_some, Go.WideShapes.add_plain]
    · rw [Nat.add_assoc, hc (k + i) (by omega)]
      simp [List.getD, List.getElem?_drop]
end Go.Proofs.Ytlmpicfhbpnpbaa

namespace Go.Proofs.Ytlmpicfhbpnpbaa
open Go.RowKit

/-- The slice value v reads as the cells us; they lie in a block below B. -/
def VRow (w : World) (B : Nat) (v : Value) (us : List Value) : Prop :=
  ∃ A c, v = .slice A us.length c ∧ us.length ≤ c ∧ c ≤ maxLen ∧ (A = none → c = 0) ∧
    (0 < us.length → ∃ b o, A = some ⟨b, o, none⟩ ∧ b < B ∧ ∀ i u, us[i]? = some u → w.cell? ⟨b, o + i, none⟩ = some u)

section
variable {w w' : World} {B B' : Nat} {v : Value} {us : List Value}
theorem VRow.keep (h : VRow w B v us) (hk : ∀ p : Addr, p.block < B → w'.cell? p = w.cell? p) : VRow w' B v us := by
  obtain ⟨A, c, hv, h1, h2, h3, h4⟩ := h
  refine ⟨A, c, hv, h1, h2, h3, fun hn => ?_⟩
  obtain ⟨b, o, e, hb, hc⟩ := h4 hn
  exact ⟨b, o, e, hb, fun i u hi => (hk ⟨b, o + i, none⟩ hb).trans (hc i u hi)⟩
theorem VRow.below (h : VRow w B v us) (hb : Below B w w') : VRow w' B v us := h.keep fun _ hp => hb.cell hp
theorem VRow.more (h : VRow w B v us) (hB : B ≤ B') : VRow w B' v us := by
  obtain ⟨A, c, hv, h1, h2, h3, h4⟩ := h
  refine ⟨A, c, hv, h1, h2, h3, fun hn => ?_⟩
  obtain ⟨b, o, e, hb, hc⟩ := h4 hn
  exact ⟨b, o, e, by omega, hc⟩
theorem VRow.nil (w : World) (B : Nat) : VRow w B (.slice none 0 0) [] := ⟨none, 0, rfl, Nat.le_refl _, Nat.zero_le _, fun _ => rfl, fun h => absurd h (by simp)⟩
theorem VRow.of_own {base : Nat} {e : TypeId} {n : Nat} (h : w.ownsRow base e 1 v n us) : VRow w w.heap.size v us := by
  have hl : us.length = n := by have := h.1; simpa using this
  subst hl
  have h' := h
  rcases h.2 with ⟨rfl, h0⟩ | ⟨g, cap, cur, rfl, _, hg, hnc, hcm, _, _⟩
  · obtain rfl : us = [] := List.eq_nil_of_length_eq_zero h0
    exact VRow.nil _ _
  · refine ⟨some ⟨g, 0, none⟩, cap, rfl, hnc, hcm, by simp, fun _ => ⟨g, 0, rfl, (Array.getElem?_eq_some_iff.1 hg).1, fun i u hi => ?_⟩⟩
    have hlt := (List.getElem?_eq_some_iff.1 hi).1
    rw [show 0 + i = i by omega, h'.cellAt i (by omega), hi]
theorem VRow.take {A : Option Addr} {n c : Nat} (h : VRow w B (.slice A n c) us) {k : Nat} (hk : k ≤ us.length) : VRow w B (.slice A (us.take k).length c) (us.take k) := by
  obtain ⟨A', c', hv, h1, h2, h3, h4⟩ := h
  injection hv with e1 e2 e3
  subst e1 e3
  have hl : (us.take k).length = k := by simp; omega
  refine ⟨A, c, rfl, by omega, h2, h3, fun hn => ?_⟩
  obtain ⟨b, o, e, hb, hc⟩ := h4 (by omega)
  refine ⟨b, o, e, hb, fun i u hi => hc i u ?_⟩
  have hlt := (List.getElem?_eq_some_iff.1 hi).1
  rw [List.getElem?_take, if_pos (by omega)] at hi
  exact hi
theorem VRow.length {A : Option Addr} {n c : Nat} (h : VRow w B (.slice A n c) us) : n = us.length ∧ us.length ≤ c ∧ c ≤ 9223372036854775807 := by
  obtain ⟨A', c', hv, h1, h2, h3, h4⟩ := h
  injection hv with e1 e2 e3
  subst e3
  unfold maxLen at h2
  exact ⟨e2, h1, by omega⟩
theorem VRow.form (h : VRow w B v us) : ∃ A c, v = .slice A us.length c ∧ us.length ≤ c ∧ c ≤ 9223372036854775807 := by
  obtain ⟨A', c', hv, h1, h2, h3, h4⟩ := h
  unfold maxLen at h2
  exact ⟨A', c', hv, h1, by omega⟩
end

/-- A row of the call's own is kept where what lay in memory is. -/
theorem own_below {w w' : World} {base : Nat} {e : TypeId} {size n : Nat} {v : Value} {us : List Value} (h : w.ownsRow base e size v n us) (hb : Below w.heap.size w w') : w'.ownsRow base e size v n us :=
  h.kept (row := none) ⟨hb.os, hb.tape, hb.output, hb.size, fun k hk _ => hb.block k hk⟩ (Classical.em _)

/-- A text as a cell. -/
def strV (t : List Int) : Value := .string (strOfNums t)
/-- Texts as cells. -/
def strVs (l : List (List Int)) : List Value := l.map strV
theorem strVs_length (l : List (List Int)) : (strVs l).length = l.length := by simp [strVs]
theorem strVs_take (l : List (List Int)) (k : Nat) : (strVs l).take k = strVs (l.take k) := by simp [strVs, List.map_take]
theorem strVs_at (l : List (List Int)) {k : Nat} {t : List Int} (h : l[k]? = some t) : (strVs l)[k]? = some (.string (strOfNums t)) := by simp [strVs, strV, h]
theorem strVs_str (l : List (List Int)) : ∀ u ∈ strVs l, ∃ s, u = .string s := fun u hu => by
  obtain ⟨t, _, rfl⟩ := List.mem_map.1 hu
  exact ⟨_, rfl⟩
theorem strVs_snoc (l : List (List Int)) (t : List Int) : strVs (l ++ [t]) = strVs l ++ [.string (strOfNums t)] := by simp [strVs, strV]

/-- A slice of texts that came in: it is nil, or it leads to cells. -/
def IsStrs (w : World) (a : Option Addr) (len cap : Nat) (ss : List ByteArray) : Prop :=
  (a = none ∧ len = 0 ∧ cap = 0 ∧ ss = []) ∨
  ∃ x, a = some x ∧ len ≤ cap ∧ cap ≤ maxLen ∧ ss.length = cap ∧ (∀ i, i < ss.length → w.cell? (x.add i) = some (.string (ss.getD i ByteArray.empty))) ∧ ∀ s ∈ ss, s.size ≤ maxLen
theorem VRow.of_strs {w : World} {a : Option Addr} {len cap : Nat} {ss : List ByteArray} (h : IsStrs w a len cap ss) :
    ∃ ts : List (List Int), ts.length = len ∧ VRow w w.heap.size (.slice a len cap) (strVs ts) ∧ ∀ t ∈ ts, t.length ≤ maxLen ∧ ∀ x ∈ t, 0 ≤ x ∧ x < 256 := by
  rcases h with ⟨rfl, rfl, rfl, rfl⟩ | ⟨x, rfl, hl, hm, hz, hc, hw⟩
  · exact ⟨[], rfl, VRow.nil _ _, by simp⟩
  · have hlen : ((ss.take len).map numsOf).length = len := by simp; omega
    refine ⟨(ss.take len).map numsOf, hlen, ⟨some x, cap, by rw [strVs_length, hlen], by rw [strVs_length, hlen]; exact hl, hm, by simp, fun hn => ?_⟩, fun t ht => ?_⟩
    · rw [strVs_length, hlen] at hn
      obtain ⟨b, o, sp⟩ := x
      have h0 := hc 0 (by omega)
      have hs : sp = none := by simpa [Addr.add] using World.cell?_spot h0
      subst hs
      refine ⟨b, o, rfl, World.block_lt_of_cell? w ⟨b, o, none⟩ (by simpa [Addr.add] using h0), fun i u hi => ?_⟩
      have hlt := (List.getElem?_eq_some_iff.1 hi).1
      rw [strVs_length, hlen] at hlt
      have hi' := hc i (by omega)
      rw [Go.WideShapes.add_plain] at hi'
      rw [hi']
      have hget : ss[i]? = some (ss[i]'(by omega)) := List.getElem?_eq_getElem (by omega)
      simp only [strVs, strV, List.map_map, List.getElem?_map, List.getElem?_take, if_pos hlt, hget, Option.map_some, Function.comp, str_numsOf, Option.some.injEq] at hi
      rw [← hi, List.getD, hget]
      rfl
    · obtain ⟨s, hs, rfl⟩ := List.mem_map.1 ht
      exact ⟨by rw [numsOf_length]; exact hw s (List.mem_of_mem_take hs), numsOf_bytes s⟩
/-- A slice whose cells lie in a block that is known. -/
theorem Row.of_cells {w : World} {B g : Nat} {xs : List Int} (hl : xs.length ≤ 9223372036854775807) (hg : g < B) (hc : ∀ i, i < xs.length → w.cell? ⟨g, i, none⟩ = some (.int .u8 (xs.getD i 0))) : Row w B (.slice (some ⟨g, 0, none⟩) xs.length xs.length) xs :=
  ⟨_, _, rfl, Nat.le_refl _, by unfold maxLen; exact hl, by simp, fun _ => ⟨g, 0, rfl, hg, fun i hi => by rw [Nat.zero_add]; exact hc i hi⟩⟩
end Go.Proofs.Ytlmpicfhbpnpbaa
