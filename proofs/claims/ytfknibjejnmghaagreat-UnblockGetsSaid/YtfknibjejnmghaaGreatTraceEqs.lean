/-
  Arguments, events, points that are the same, in plain numbers and in a walk.
-/
import Derived.Test.YtfknibjejnmghaaGreatTraceRows
import Derived.Test.YtfknibjejnmghaaGreatSigKit
import Derived.Test.YtfknibjejnmghaaGreatSigKeys
import Derived.Laws.StructEq
namespace Go.Proofs.YtfknibjejnmghaaGreat
open Go.RowKit

theorem lst_ext {α : Type} [Inhabited α] {l m : List α} (hl : l.length = m.length) (h : ∀ i, i < l.length → l.getD i default = m.getD i default) : l = m := by
  refine List.ext_getElem hl fun i h1 h2 => ?_
  have := h i h1
  simpa [List.getD, List.getElem?_eq_getElem h1, List.getElem?_eq_getElem h2] using this
theorem part_num (w : World) (t : TypeId) (k k' : IntKind) (cs : Array Value) (i : Nat) (x : Int) (ht : Tryz.prog.underlying t = some (.int k')) (hi : cs[i]? = some (.int k x)) : (part t cs i).run Tryz.prog w = .ok (.int k x) w := by
  unfold part isAgg
  simp [run_underlying ht, hi, Result.andThen]
theorem arg_eq (w : World) (a b : Int) (s : ByteArray) (a' b' : Int) (s' : ByteArray) : (Op.equal 50 (.agg #[.int .i64 a, .int .i64 b, .string s]) (.agg #[.int .i64 a', .int .i64 b', .string s'])).run Tryz.prog w = .ok (a == a' && (b == b' && s.toList == s'.toList)) w := by
  unfold Op.equal
  rw [show Op.maxDepth = 9998 + 1 + 1 from rfl, run_equalIn_struct (P := Tryz.prog) w _ 50 _ _ (by kernel_rfl) (by kernel_rfl)]
  simp [Program.fieldsOf, Tryz.underlying50, Op.eqFields]
  rw [part_num w 3 .i64 .i64 _ 0 a Tryz.underlying3 rfl, Result.andThen_ok, part_num w 3 .i64 .i64 _ 0 a' Tryz.underlying3 rfl, Result.andThen_ok, show (9999 : Nat) = 9998 + 1 from rfl, run_equalIn_int (P := Tryz.prog) w 9998 3 .i64 .i64 a a' Tryz.underlying3, Result.andThen_ok]
  cases h : a == a' with
  | false => simp
  | true =>
    simp
    rw [part_num w 2 .i64 .i64 _ 1 b Tryz.underlying2 rfl, Result.andThen_ok, part_num w 2 .i64 .i64 _ 1 b' Tryz.underlying2 rfl, Result.andThen_ok, show (9999 : Nat) = 9998 + 1 from rfl, run_equalIn_int (P := Tryz.prog) w 9998 2 .i64 .i64 b b' Tryz.underlying2, Result.andThen_ok]
    cases h : b == b' with
    | false => simp
    | true =>
      simp
      rw [part_str w 9 _ 2 s Tryz.underlying9 rfl, Result.andThen_ok, part_str w 9 _ 2 s' Tryz.underlying9 rfl, Result.andThen_ok, show (9999 : Nat) = 9998 + 1 from rfl, run_equalIn_string (P := Tryz.prog) w 9998 9 s s' Tryz.underlying9, Result.andThen_ok]
      cases s.toList == s'.toList <;> simp
theorem ag_eq_dec {x y : Ag} (hx : x.Fits) (hy : y.Fits) : (x.t == y.t && (x.n == y.n && (strOfNums x.s).toList == (strOfNums y.s).toList)) = decide (x = y) := by
  obtain ⟨a, b, s⟩ := x
  obtain ⟨a', b', s'⟩ := y
  rw [str_eq_dec hx.2.1 hy.2.1]
  by_cases h1 : a = a' <;> by_cases h2 : b = b' <;> by_cases h3 : s = s' <;> simp [h1, h2, h3]
theorem run_neq_arg (w : World) {x y : Ag} (hx : x.Fits) (hy : y.Fits) :
    (binOp .neq 50 (.agg #[.int .i64 x.t, .int .i64 x.n, .string (strOfNums x.s)]) (.agg #[.int .i64 y.t, .int .i64 y.n, .string (strOfNums y.s)])).run Tryz.prog w = .ok (.bool (!decide (x = y))) w := by
  have h := arg_eq w x.t x.n (strOfNums x.s) y.t y.n (strOfNums y.s)
  rw [ag_eq_dec hx hy] at h
  simp only [binOp, Sem.run_bind, h, Result.andThen_ok, Sem.run_pure]
theorem ev_eq_dec (a b : Em) : decide (a.e = b.e) = (decide (a.p = b.p) && decide (a.args = b.args)) := by
  obtain ⟨p, l, _, _⟩ := a
  obtain ⟨q, m, _, _⟩ := b
  by_cases h1 : p = q <;> by_cases h2 : l = m <;> simp [Em.e, h1, h2]
theorem pn_eq_dec (a b : Pm) : decide (a.p = b.p) = (decide (a.tm = b.tm) && decide (a.evs.map (·.e) = b.evs.map (·.e))) := by
  obtain ⟨p, l, _, _⟩ := a
  obtain ⟨q, m, _, _⟩ := b
  by_cases h1 : p = q <;> by_cases h2 : l.map (·.e) = m.map (·.e) <;> simp [Pm.p, h1, h2]

end Go.Proofs.YtfknibjejnmghaaGreat
