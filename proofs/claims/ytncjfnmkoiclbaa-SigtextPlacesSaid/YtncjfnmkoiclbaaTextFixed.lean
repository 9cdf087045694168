/-
  '==' and '!=' of two places; the chapter's example of layer 10.
-/
import Derived.Test.YtncjfnmkoiclbaaTextParse
import Derived.Test.YtncjfnmkoiclbaaTextPrint
import Derived.Test.YtncjfnmkoiclbaaSigSays
import Derived.Laws.StructEq
namespace Go.Proofs.Ytncjfnmkoiclbaa
open Go.RowKit

theorem place_part (w : World) (cs : Array Value) (i : Nat) (x : Int) (hi : cs[i]? = some (.int .i64 x)) : (part 3 cs i).run Try.prog w = .ok (.int .i64 x) w := by
  unfold part isAgg
  simp [run_underlying Try.underlying3, hi, Result.andThen]
theorem place_eq (w : World) (a b c d : Int) : (Op.equal 43 (.agg #[.int .i64 a, .int .i64 b]) (.agg #[.int .i64 c, .int .i64 d])).run Try.prog w = .ok (a == c && b == d) w := by
  unfold Op.equal
  rw [show Op.maxDepth = 9998 + 1 + 1 from rfl, run_equalIn_struct (P := Try.prog) w _ 43 _ _ (by kernel_rfl) (by kernel_rfl)]
  simp [Program.fieldsOf, Try.underlying43, Op.eqFields]
  rw [place_part w _ 0 a rfl, Result.andThen_ok, place_part w _ 0 c rfl, Result.andThen_ok, show (9999 : Nat) = 9998 + 1 from rfl, run_equalIn_int (P := Try.prog) w 9998 3 .i64 .i64 a c Try.underlying3, Result.andThen_ok]
  cases h : a == c with
  | false => simp
  | true =>
    simp
    rw [place_part w _ 1 b rfl, Result.andThen_ok, place_part w _ 1 d rfl, Result.andThen_ok, show (9999 : Nat) = 9998 + 1 from rfl, run_equalIn_int (P := Try.prog) w 9998 3 .i64 .i64 b d Try.underlying3, Result.andThen_ok]
    cases b == d <;> simp
theorem run_eql_place (w : World) (a b c d : Int) : (binOp .eql 43 (.agg #[.int .i64 a, .int .i64 b]) (.agg #[.int .i64 c, .int .i64 d])).run Try.prog w = .ok (.bool (a == c && b == d)) w := by
  have h := place_eq w a b c d
  unfold Op.equal at h
  rw [run_eql_struct, show (10000 : Nat) = Op.maxDepth from rfl, h]
  rfl
theorem run_neq_place (w : World) (a b c d : Int) : (binOp .neq 43 (.agg #[.int .i64 a, .int .i64 b]) (.agg #[.int .i64 c, .int .i64 d])).run Try.prog w = .ok (.bool (!(a == c && b == d))) w := by
  have h := place_eq w a b c d
  simp only [binOp, Sem.run_bind, h, Result.andThen_ok, Sem.run_pure]
theorem two_ints {w : World} {g B : Nat} {t : TypeId} {x y : Int} (h : Held w g t #[.int .i64 x, .int .i64 y]) (hB : g < B) : IRow w B (.slice (some ⟨g, 0, none⟩) [x, y].length 2) [x, y] :=
  ⟨_, _, rfl, by simp, by unfold maxLen; omega, by simp, fun _ => ⟨g, 0, rfl, hB, fun i u hi => by
    match i with
    | 0 => rw [Nat.zero_add, h.cell 0]; simpa using hi
    | 1 => rw [Nat.zero_add, h.cell 1]; simpa using hi
    | i + 2 => simp at hi⟩⟩
/-- The example's text. -/
def exT : List Int := [112, 40, 105, 110, 116, 44, 115, 116, 114, 105, 110, 103, 41, 10]
theorem parse_ex : (parseP exT).l = [⟨[112], [1, 2]⟩] ∧ (parseP exT).e = 0 ∧ (parseP exT).line = 0 ∧ (parseP exT).col = 0 := by decide +kernel

set_option maxRecDepth 100000 in
set_option maxHeartbeats 1000000 in
theorem tfix_any (w : World) : Calls Try.prog 15 #[] w fun e w' => e = .returned (.bool true) ∧ Below w.heap.size w w' := by
  have HPA := Lib.hid (parse_any exT (by decide) (by decide) w)
  rw [show strOfNums exT = ⟨#[112, 40, 105, 110, 116, 44, 115, 116, 114, 105, 110, 103, 41, 10]⟩ from rfl] at HPA
  obtain ⟨n, hn⟩ : ∃ n, w.heap.size = n := ⟨_, rfl⟩
  rw [hn] at HPA ⊢
  have HNW0 := Lib.hid hn
  clear hn
  go_enter Try.func15, Try.ntmps15
  go_wp2_with fail
  refine HPA.out.mono ?_
  rintro e w1 ⟨⟨A, c, es, rfl, hown, hes⟩, hb1⟩
  obtain ⟨q1, q2, q3, q4⟩ := parse_ex
  rw [q2, q3, q4]
  rw [q1] at hes
  have HSM := Lib.hid (fun W (h : Below w1.heap.size w1 W) A2 c2 ds2 (h2 : PredRow W W.heap.size (.slice A2 ds2.length c2) ds2) => rsigsame_any A c es A2 c2 ds2 W ((hown.fresh.1.below h).more h.size) h2)
  rw [hes] at HSM
  have HB1 := Lib.hid hb1
  have HNW := HNW0
  clear hown hes hb1 q1 q2 q3 q4
  go_wp2_with fail
  obtain ⟨m, hm⟩ : ∃ m, w1.heap.size = m := ⟨_, rfl⟩
  have hnm : n ≤ m := by rw [← hm, ← HNW.out]; exact HB1.out.size
  rw [hm] at HSM ⊢
  obtain ⟨v1, hv1⟩ : ∃ v1, w1.alloc (.cells #[.int .i64 0, .int .i64 0] 43) = v1 := ⟨_, rfl⟩
  have s1 : v1.heap.size = m + 1 := by rw [← hv1, ← hm]; simp
  have b1 : Below m w1 v1 := by rw [← hv1, ← hm]; exact (Below.refl _ _).alloc (Nat.le_refl _) _
  rw [hv1]
  obtain ⟨v2, hv2⟩ : ∃ v2, v1.alloc (.cells #[.int .i64 1, .int .i64 2] 3) = v2 := ⟨_, rfl⟩
  have g2 : Held v2 (m + 1) 3 #[.int .i64 1, .int .i64 2] := by rw [← hv2, ← s1]; exact heap_alloc_new v1 _
  have s2 : v2.heap.size = m + 1 + 1 := by rw [← hv2]; simp [s1]
  have b2 : Below (m + 1) v1 v2 := by rw [← hv2, ← s1]; exact (Below.refl _ _).alloc (Nat.le_refl _) _
  rw [hv2]
  obtain ⟨v3, hv3⟩ : ∃ v3, v2.alloc (.cells #[.string { data := #[112] }, .slice (some ⟨m + 1, 0, none⟩) 2 2] 39) = v3 := ⟨_, rfl⟩
  have g3 : Held v3 (m + 1 + 1) 39 #[.string { data := #[112] }, .slice (some ⟨m + 1, 0, none⟩) 2 2] := by rw [← hv3, ← s2]; exact heap_alloc_new v2 _
  have b3 : Below (m + 1 + 1) v2 v3 := by rw [← hv3, ← s2]; exact (Below.refl _ _).alloc (Nat.le_refl _) _
  rw [hv3]
  have s3 := g3.lt
  have hbw : Below m w1 v3 := (b1.trans (b2.mono (by omega))).trans (b3.mono (by omega))
  have hrow : PredRow v3 v3.heap.size (.slice (some ⟨m + 1 + 1, 0, none⟩) 1 1) [⟨⟨[112], [1, 2]⟩, some ⟨m + 1, 0, none⟩, 2⟩] :=
    row_one (d := ⟨⟨[112], [1, 2]⟩, some ⟨m + 1, 0, none⟩, 2⟩) g3 (two_ints (g2.below b3 (by omega)) (by omega)) ⟨by unfold maxLen; simp, by simp, by simp⟩
  have hcall : Calls Try.prog 21 #[.slice A es.length c, .slice (some ⟨m + 1 + 1, 0, none⟩) 1 1] v3 (fun e w' => e = .returned (.bool (decide ([(⟨[112], [1, 2]⟩ : Pr)] = [⟨[112], [1, 2]⟩]))) ∧ Below v3.heap.size v3 w') := HSM.out v3 hbw (some ⟨m + 1 + 1, 0, none⟩) 1 [⟨⟨[112], [1, 2]⟩, some ⟨m + 1, 0, none⟩, 2⟩] hrow
  rw [decide_eq_true rfl] at hcall
  refine hcall.mono ?_
  rintro e w4 ⟨rfl, hb4⟩
  have HB4 := Lib.hid ((HB1.out.trans (hbw.mono hnm)).trans (hb4.mono (by omega)))
  clear hb4 hcall hrow b1 b2 b3 g2 g3 s1 s2 s3 hv1 hv2 hv3 hm hbw
  go_wp2_with fail
  go_ret
  exact ⟨rfl, HB4.out⟩
#print axioms tfix_any
end Go.Proofs.Ytncjfnmkoiclbaa
