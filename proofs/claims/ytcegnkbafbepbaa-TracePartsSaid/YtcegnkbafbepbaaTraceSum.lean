/-
  What a trace has, in two parts: the sums, wrapped. No program here.
-/
import Derived.Test.YtcegnkbafbepbaaTraceIt
namespace Go.Proofs.Ytcegnkbafbepbaa
open Go.RowKit

theorem evsOf_append (t u : List Pm) : evsOf (t ++ u) = evsOf t ++ evsOf u := by simp [evsOf]
theorem agsOf_append (t u : List Em) : agsOf (t ++ u) = agsOf t ++ agsOf u := by simp [agsOf]
theorem partsOf_count (t : List Pm) (k : Nat) : (evsOf (t.take k)).length + (evsOf (t.drop k)).length = (evsOf t).length ∧ (agsOf (evsOf (t.take k))).length + (agsOf (evsOf (t.drop k))).length = (agsOf (evsOf t)).length ∧
    sumS (agsOf (evsOf (t.take k))) + sumS (agsOf (evsOf (t.drop k))) = sumS (agsOf (evsOf t)) := by
  have e := List.take_append_drop k t
  have e1 : evsOf t = evsOf (t.take k) ++ evsOf (t.drop k) := by rw [← evsOf_append, e]
  have e2 : agsOf (evsOf t) = agsOf (evsOf (t.take k)) ++ agsOf (evsOf (t.drop k)) := by rw [e1, agsOf_append]
  refine ⟨by rw [e1, List.length_append], by rw [e2, List.length_append], by rw [e2, sumS_append]⟩
theorem sum_wrap {a b c : Nat} (h : a + b = c) : wrap64 (wrap64 (a : Int) + wrap64 (b : Int)) = wrap64 (c : Int) := by
  subst h
  unfold wrap64
  omega
#print axioms sum_wrap
end Go.Proofs.Ytcegnkbafbepbaa
