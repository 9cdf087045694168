/-
  The document's own Get of a text: the text that a text begins with, how many bytes it has, or why there is none.
-/
import Derived.Test.YtfknibjejnmghaaGreatRefGet
import Derived.Test.YtfknibjejnmghaaGreatSlices
import Derived.Test.YtfknibjejnmghaaGreatPlains
namespace Go.Proofs.YtfknibjejnmghaaGreat
open Go.RowKit

set_option maxRecDepth 100000 in
set_option maxHeartbeats 1000000 in
/-- The document's Get. -/
theorem rbget_any (xs : List Int) (most : Int) (hm0 : -9223372036854775808 ≤ most) (hm1 : most ≤ 9223372036854775807) (w : World) (hb : ∀ x ∈ xs, 0 ≤ x ∧ x < 256) (hl : xs.length ≤ 1000000000) :
    Calls Tryz.prog 50 #[.string (strOfNums xs), .int .i64 most] w fun e w' => e = .returned (.tuple #[.string (strOfNums (getT most xs).1), .int .i64 (getT most xs).2.1, .int .i64 (getT most xs).2.2]) ∧ w = w' := by
  have hg := rget_any xs hb (by omega) w
  have hss : (strOfNums xs).size = xs.length := strOfNums_size xs
  by_cases he : (getI xs).2.2 = 0
  · obtain ⟨n, s, hgi, h1, h2, h3, h4, h5⟩ := getI_ok xs hb he
    rw [hgi] at hg
    obtain ⟨M, hM, hMb⟩ : ∃ M : Nat, max most 0 = M ∧ M ≤ 9223372036854775807 := ⟨(max most 0).toNat, by omega, by omega⟩
    have key : ∀ m : Int, (m = most ∧ 0 ≤ most ∨ m = 0 ∧ most < 0) → m = M := fun m h => by omega
    by_cases hlim : M < n
    · have ht : getT most xs = ([], 0, 6) := getT_limit hgi (by omega)
      rw [ht]
      have HG := Lib.hid hg; clear hg hgi ht he hb h4
      generalize strOfNums xs = ss at HG hss
      by_cases h0 : most < 0
      · obtain rfl : M = 0 := by omega
        clear hM key
        go_enter Tryz.func50, Tryz.ntmps50
        go_wp2_with (go_at_call 9; refine HG.out.mono ?_; rintro e w1 ⟨rfl, rfl⟩)
        go_ret3
        exact ⟨rfl, rfl⟩
      · obtain rfl : most = (M : Int) := by omega
        clear hM key
        go_enter Tryz.func50, Tryz.ntmps50
        go_wp2_with (go_at_call 9; refine HG.out.mono ?_; rintro e w1 ⟨rfl, rfl⟩)
        go_ret3
        exact ⟨rfl, rfl⟩
    · by_cases hs : xs.length - s < n
      · have ht : getT most xs = ([], 0, 2) := getT_short hgi (by omega) hs
        rw [ht]
        have HG := Lib.hid hg; clear hg hgi ht he hb h4
        generalize strOfNums xs = ss at HG hss
        obtain ⟨L, hL⟩ : ∃ L, xs.length = L := ⟨_, rfl⟩
        rw [hL] at hss hs h2 hl
        clear hL
        by_cases h0 : most < 0
        · obtain rfl : M = 0 := by omega
          obtain rfl : n = 0 := by omega
          omega
        · obtain rfl : most = (M : Int) := by omega
          clear hM key
          by_cases hn : L < n
          · go_enter Tryz.func50, Tryz.ntmps50
            go_wp2_with (go_at_call 9; refine HG.out.mono ?_; rintro e w1 ⟨rfl, rfl⟩)
            go_ret3
            exact ⟨rfl, rfl⟩
          · go_enter Tryz.func50, Tryz.ntmps50
            have hn2 : (L : Int) < (s : Int) + (n : Int) := by omega
            go_wp2_with (go_at_call 9; refine HG.out.mono ?_; rintro e w1 ⟨rfl, rfl⟩)
            go_ret3
            exact ⟨rfl, rfl⟩
      · have ht : getT most xs = ((xs.drop s).take n, s + n, 0) := getT_ok hgi (by omega) hs
        rw [ht]
        have hcut : (strOfNums xs).extract s (s + n) = strOfNums ((xs.drop s).take n) := by rw [str_cut, List.drop_take]; congr 2; omega
        generalize strOfNums ((xs.drop s).take n) = cs at hcut
        have HG := Lib.hid hg; clear hg hgi ht he hb h4
        generalize strOfNums xs = ss at HG hss hcut
        obtain ⟨L, hL⟩ : ∃ L, xs.length = L := ⟨_, rfl⟩
        rw [hL] at hss hs h2 hl
        clear hL
        have i1 : (s : Int) + (n : Int) ≤ (L : Int) := by omega
        have i2 : (0 : Int) ≤ (s : Int) + (n : Int) := by omega
        have i3 : (s : Int) ≤ (s : Int) + (n : Int) := by omega
        have i4 : ((s : Int) + (n : Int)).toNat = s + n := by omega
        by_cases h0 : most < 0
        · obtain rfl : M = 0 := by omega
          clear hM key
          go_enter Tryz.func50, Tryz.ntmps50
          go_wp2_with (go_at_call 9; refine HG.out.mono ?_; rintro e w1 ⟨rfl, rfl⟩)
          go_ret3
          exact ⟨rfl, rfl⟩
        · obtain rfl : most = (M : Int) := by omega
          clear hM key
          go_enter Tryz.func50, Tryz.ntmps50
          go_wp2_with (go_at_call 9; refine HG.out.mono ?_; rintro e w1 ⟨rfl, rfl⟩)
          go_ret3
          exact ⟨rfl, rfl⟩
  · have ht : getT most xs = ([], 0, (getI xs).2.2) := getT_err rfl he
    rw [ht]
    clear ht hb
    generalize (getI xs).2.2 = er at hg he
    have HG := Lib.hid hg; clear hg
    have hne : (er != 0) = true := by simpa using he
    clear he
    go_enter Tryz.func50, Tryz.ntmps50
    go_wp2_with (go_at_call 9; refine HG.out.mono ?_; rintro e w1 ⟨rfl, rfl⟩)
    go_ret3
    exact ⟨rfl, rfl⟩
#print axioms rbget_any
end Go.Proofs.YtfknibjejnmghaaGreat
