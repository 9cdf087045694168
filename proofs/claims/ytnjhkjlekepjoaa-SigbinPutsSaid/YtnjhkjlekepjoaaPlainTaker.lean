/-
  A frame's parts, taken one behind the other of bytes that are clipped: they are those of the frame that the bytes begin with. No program here.
-/
import Derived.Test.YtnjhkjlekepjoaaPlainFrames
import Derived.Test.YtnjhkjlekepjoaaCurNew
namespace Go.Proofs.Ytnjhkjlekepjoaa

/-- A number is found within its first ten bytes. -/
theorem lenI_take : ∀ (m i : Nat) (xs : List Int), 10 ≤ i + m → lenI i (xs.take m) = lenI i xs
  | 0, i, xs, h => by
    cases xs with
    | nil => simp
    | cons x r =>
      simp only [List.take_zero, lenI]
      rw [if_neg (by omega), if_pos (by omega)]
  | m + 1, i, [], h => by simp
  | m + 1, i, x :: r, h => by
    simp only [List.take_succ_cons, lenI]
    rw [lenI_take m (i + 1) r (by omega)]
theorem getI_take {m : Nat} (hm : 10 ≤ m) (xs : List Int) (hb : ∀ x ∈ xs, 0 ≤ x ∧ x < 256) : getI (xs.take m) = getI xs := by
  have h := lenI_take m 0 xs (by omega)
  unfold getI
  rw [h]
  by_cases he : (lenI 0 xs).2 = 0
  · obtain ⟨_, _, h3, _⟩ := getI_back xs hb he
    rw [if_pos he, if_pos he, List.take_take, Nat.min_eq_left (by omega)]
  · rw [if_neg he, if_neg he]

/-- The kind that is taken: the byte, the place, the error. -/
def takeK (zs : List Int) : Int × Nat × Int := tk 0 0 0 (getB zs)
def errK (zs : List Int) : Int := if (takeK zs).1 = 1 ∨ (takeK zs).1 = 2 then (takeK zs).2.2 else stopI (takeK zs).2.2 4
/-- The payload that is taken. -/
def takeP (zs : List Int) : List Int × Nat × Int := tk [] (takeK zs).2.1 (errK zs) (getT 4096 (zs.drop (takeK zs).2.1))
/-- Four bytes that are taken, from a place and an error on. -/
def takeB (zs : List Int) (p : Nat) (e : Int) : Int × Nat × Int := tk 0 p e (getB (zs.drop p))
def at4 (zs : List Int) (p : Nat) (e : Int) : Nat → Nat × Int
  | 0 => (p, e)
  | j + 1 => (takeB zs (at4 zs p e j).1 (at4 zs p e j).2).2
def four (zs : List Int) (p : Nat) (e : Int) (j : Nat) : Int := (takeB zs (at4 zs p e j).1 (at4 zs p e j).2).1
def fourL (zs : List Int) (p : Nat) (e : Int) : List Int := [four zs p e 0, four zs p e 1, four zs p e 2, four zs p e 3]
/-- The error behind the sum, body being what it is of. -/
def errS (zs : List Int) (p : Nat) (e : Int) (body : List Int) : Int :=
  if fourL zs p e = le4 (sumX body) then (at4 zs p e 4).2 else stopI (at4 zs p e 4).2 5

theorem at4_stopped {zs : List Int} {p : Nat} {e : Int} (h : e ≠ 0) : ∀ j, at4 zs p e j = (p, e)
  | 0 => rfl
  | j + 1 => by
    simp only [at4, at4_stopped h j]
    unfold takeB
    rw [tk_stopped h]
theorem errS_stopped {zs : List Int} {p : Nat} {e : Int} {body : List Int} (h : e ≠ 0) : errS zs p e body = e := by
  unfold errS
  rw [at4_stopped h]
  split
  · rfl
  · exact stopI_kept h 5
theorem takeB_ok {zs : List Int} {p : Nat} (h : p < zs.length) : takeB zs p 0 = (zs[p], p + 1, 0) := by
  unfold takeB
  rw [List.drop_eq_getElem_cons h]
  rw [tk_ok (by rfl)]
  rfl
theorem takeB_end {zs : List Int} {p : Nat} (h : zs.length ≤ p) : takeB zs p 0 = (0, p, 2) := by
  unfold takeB
  rw [List.drop_of_length_le h, tk_err (by simp [getB])]
  rfl
theorem at4_ok {zs : List Int} {p : Nat} : ∀ j, p + j ≤ zs.length → at4 zs p 0 j = (p + j, 0)
  | 0, _ => rfl
  | j + 1, h => by
    have ih := at4_ok (zs := zs) (p := p) j (by omega)
    show (takeB zs (at4 zs p 0 j).1 (at4 zs p 0 j).2).2 = _
    rw [ih]
    show (takeB zs (p + j) 0).2 = _
    rw [takeB_ok (by omega)]
    rfl
theorem at4_end {zs : List Int} {p : Nat} (h : zs.length < p + 4) (hp : p ≤ zs.length) : (at4 zs p 0 4).2 = 2 := by
  have key : ∀ j, zs.length < p + j → (at4 zs p 0 j).2 = 2 := by
    intro j
    induction j with
    | zero => intro h; omega
    | succ j ih =>
      intro h
      by_cases hj : zs.length < p + j
      · have := ih hj
        simp only [at4]
        unfold takeB
        rw [this, tk_stopped (by simp)]
      · have hj := at4_ok (zs := zs) (p := p) j (by omega)
        show (takeB zs (at4 zs p 0 j).1 (at4 zs p 0 j).2).2.2 = _
        rw [hj]
        show (takeB zs (p + j) 0).2.2 = _
        rw [takeB_end (by omega)]
  exact key 4 h
theorem four_ok {zs : List Int} {p : Nat} (h : p + 4 ≤ zs.length) : fourL zs p 0 = (zs.drop p).take 4 := by
  unfold fourL four
  rw [at4_ok 0 (by omega), at4_ok 1 (by omega), at4_ok 2 (by omega), at4_ok 3 (by omega)]
  simp only
  rw [takeB_ok (by omega), takeB_ok (by omega), takeB_ok (by omega), takeB_ok (by omega)]
  rw [List.drop_eq_getElem_cons (show p < zs.length by omega), List.drop_eq_getElem_cons (show p + 1 < zs.length by omega), List.drop_eq_getElem_cons (show p + 1 + 1 < zs.length by omega), List.drop_eq_getElem_cons (show p + 1 + 1 + 1 < zs.length by omega)]
  rfl

/-- All that is taken of the bytes behind the mark, clipped. -/
theorem taken (ys : List Int) (hb : ∀ x ∈ ys, 0 ≤ x ∧ x < 256) (zs : List Int) (hz : zs = ys.take 4103) (e : Int) (he : e = errS zs (takeP zs).2.1 (takeP zs).2.2 (ys.take (takeP zs).2.1)) :
    (takeP zs).2.1 ≤ zs.length ∧
    getFr (markL ++ ys) = if e ≠ 0 then noFr e else (((takeK zs).1, (takeP zs).1), 4 + (at4 zs (takeP zs).2.1 (takeP zs).2.2 4).1, 0) := by
  rw [getFr_mark]
  cases ys with
  | nil =>
    subst hz
    have hk : takeK (([] : List Int).take 4103) = (0, 0, 2) := by decide
    have hek : errK (([] : List Int).take 4103) = 2 := by unfold errK; rw [hk]; decide
    have hp : takeP (([] : List Int).take 4103) = ([], 0, 2) := by unfold takeP; rw [hk, hek, tk_stopped (by simp)]
    rw [hp] at he ⊢
    rw [errS_stopped (by simp)] at he
    subst he
    exact ⟨Nat.zero_le _, by simp⟩
  | cons k r =>
    have hbr : ∀ x ∈ r, 0 ≤ x ∧ x < 256 := fun x hx => hb x (by simp [hx])
    rw [List.take_succ_cons] at hz
    have hzl : zs.length = min 4102 r.length + 1 := by rw [hz]; simp
    have hk : takeK zs = (k, 1, 0) := by rw [hz]; unfold takeK; rw [tk_ok (by rfl)]; rfl
    simp only
    by_cases hkk : k = 1 ∨ k = 2
    · rw [if_pos hkk]
      have hek : errK zs = 0 := by unfold errK; rw [hk, if_pos hkk]
      have hd1 : zs.drop 1 = r.take 4102 := by rw [hz]; rfl
      have hg := getI_take (show 10 ≤ 4102 by omega) r hbr
      by_cases her : (getI r).2.2 = 0
      · obtain ⟨n, s, hgi, h1, h2, h3, h4, h5⟩ := getI_ok r hbr her
        have hgt : getI (r.take 4102) = ((n : Int), s, 0) := hg.trans hgi
        by_cases hl : 4096 < n
        · have hT := getT_limit (most := 4096) hgt (by omega)
          have hp : takeP zs = ([], 1, 6) := by unfold takeP; rw [hk, hek, hd1, hT, tk_err (by simp)]
          rw [hp] at he ⊢
          rw [errS_stopped (by simp)] at he
          subst he
          exact ⟨by simp only; omega, by rw [getBody_limit hgi hl]; simp⟩
        · have hs2 : s ≤ 2 := by
            have hle := (encI_length 1 n (by omega)).2
            rw [h4, List.length_take] at hle
            omega
          by_cases hs : r.length - s < n
          · have hT := getT_short (most := 4096) hgt (by omega) (by simp; omega)
            have hp : takeP zs = ([], 1, 2) := by unfold takeP; rw [hk, hek, hd1, hT, tk_err (by simp)]
            rw [hp] at he ⊢
            rw [errS_stopped (by simp)] at he
            subst he
            exact ⟨by simp only; omega, by rw [getBody_short hgi (by omega) (by omega)]; simp⟩
          · have hT := getT_ok (most := 4096) hgt (by omega) (by simp; omega)
            have hp : takeP zs = (((r.take 4102).drop s).take n, 1 + (s + n), 0) := by unfold takeP; rw [hk, hek, hd1, hT, tk_ok (by rfl)]
            have hpay : ((r.take 4102).drop s).take n = (r.drop s).take n := by
              rw [List.drop_take, List.take_take, Nat.min_eq_left (by omega)]
            rw [hp, hpay] at he ⊢
            simp only at he ⊢
            have hbody : (k :: r).take (1 + (s + n)) = k :: r.take (s + n) := by rw [Nat.add_comm 1, List.take_succ_cons]
            rw [hbody] at he
            by_cases h4r : r.length < s + n + 4
            · have hend : zs.length < 1 + (s + n) + 4 := by omega
              have hE := at4_end hend (by omega)
              have he2 : e = 2 := by
                rw [he]
                unfold errS
                rw [hE]
                split <;> rfl
              subst he2
              exact ⟨by omega, by rw [getBody_short hgi (by omega) h4r]; simp⟩
            · have hA := at4_ok (zs := zs) (p := 1 + (s + n)) 4 (by omega)
              have hF := four_ok (zs := zs) (p := 1 + (s + n)) (by omega)
              have hdz : (zs.drop (1 + (s + n))).take 4 = (r.drop (s + n)).take 4 := by
                rw [hz, Nat.add_comm 1, List.drop_succ_cons, List.drop_take, List.take_take, Nat.min_eq_left (by omega)]
              rw [hdz] at hF
              unfold errS at he
              rw [hF, hA] at he
              rw [hA]
              by_cases hq : (r.drop (s + n)).take 4 = le4 (sumX (k :: r.take (s + n)))
              · rw [if_pos hq] at he
                subst he
                refine ⟨by omega, ?_⟩
                rw [getBody_ok hgi (by omega) h4r hq, if_neg (by simp), hk]
                simp only [Prod.mk.injEq, true_and, and_true]
                omega
              · rw [if_neg hq] at he
                simp only [stopI] at he
                subst he
                exact ⟨by omega, by rw [getBody_sum hgi (by omega) h4r hq]; simp⟩
      · have hT := getT_err (most := 4096) (xs := r.take 4102) (by rw [hg]) her
        have hp : takeP zs = ([], 1, (getI r).2.2) := by unfold takeP; rw [hk, hek, hd1, hT]; exact tk_err (r := (([] : List Int), 0, (getI r).2.2)) her
        rw [hp] at he ⊢
        rw [errS_stopped her] at he
        subst he
        exact ⟨by simp only; omega, by rw [getBody_err rfl her, if_pos her]⟩
    · have hek : errK zs = 4 := by unfold errK; rw [hk, if_neg hkk]; rfl
      have hp : takeP zs = ([], 1, 4) := by unfold takeP; rw [hk, hek, tk_stopped (by simp)]
      rw [hp] at he ⊢
      rw [errS_stopped (by simp)] at he
      subst he
      exact ⟨by simp only; omega, by rw [if_neg hkk]; simp⟩
#print axioms taken
end Go.Proofs.Ytnjhkjlekepjoaa
