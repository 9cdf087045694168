/-
  Points out of a payload, in plain lists: what is taken from a place on, with an error; a payload is read as the points it was made of; cut off, or with a byte more, it isn't; what is read has the payload. No program here.
-/
import Derived.Test.YtlmpicfhbpnpbaaPlainBlock
namespace Go.Proofs.Ytlmpicfhbpnpbaa
set_option linter.unusedVariables false

/-- Steps, one behind the other: what each gives, and the state behind them. -/
def stepsU {α σ : Type} (f : Nat → σ → α × σ) (s : σ) : Nat → List α × σ
  | 0 => ([], s)
  | j + 1 => ((stepsU f s j).1 ++ [(f j (stepsU f s j).2).1], (f j (stepsU f s j).2).2)
section
variable {α σ : Type} {f g : Nat → σ → α × σ} {s : σ}
theorem stepsU_length : ∀ n, (stepsU f s n).1.length = n
  | 0 => rfl
  | n + 1 => by rw [stepsU, List.length_append, stepsU_length n]; rfl
theorem stepsU_inv {I : σ → Prop} (h0 : I s) (h : ∀ j s, I s → I (f j s).2) : ∀ n, I (stepsU f s n).2
  | 0 => h0
  | n + 1 => h n _ (stepsU_inv h0 h n)
theorem stepsU_all {I : σ → Prop} {P : α → Prop} (h0 : I s) (h : ∀ j s, I s → I (f j s).2 ∧ P (f j s).1) : ∀ n, ∀ a ∈ (stepsU f s n).1, P a
  | 0, a, ha => by simp [stepsU] at ha
  | n + 1, a, ha => by
    rw [stepsU] at ha
    rcases List.mem_append.1 ha with ha | ha
    · exact stepsU_all h0 h n a ha
    · rw [List.mem_singleton.1 ha]
      exact (h n _ (stepsU_inv h0 (fun j s hs => (h j s hs).1) n)).2
/-- Behind an error it stays. -/
theorem stepsU_stop {er : σ → Int} (h : ∀ j s, er s ≠ 0 → er (f j s).2 = er s) {k : Nat} (he : er (stepsU f s k).2 ≠ 0) : ∀ n, k ≤ n → er (stepsU f s n).2 = er (stepsU f s k).2
  | 0, hk => by rw [Nat.le_zero.1 hk]
  | n + 1, hk => by
    by_cases hkn : k = n + 1
    · rw [hkn]
    · have ih := stepsU_stop h he n (by omega)
      rw [stepsU]
      exact (h n _ (by rw [ih]; exact he)).trans ih
theorem stepsU_zero {er : σ → Int} (h : ∀ j s, er s ≠ 0 → er (f j s).2 = er s) {n k : Nat} (hk : k ≤ n) (he : er (stepsU f s n).2 = 0) : er (stepsU f s k).2 = 0 :=
  Classical.byContradiction fun q => q (by rw [← stepsU_stop h q n hk]; exact he)
theorem stepsU_there {S : Nat → σ} {l : List α} (h : ∀ j a, l[j]? = some a → f j (S j) = (a, S (j + 1))) : ∀ n, n ≤ l.length → stepsU f (S 0) n = (l.take n, S n)
  | 0, _ => by simp [stepsU]
  | n + 1, hn => by
    have hl : l[n]? = some (l[n]'(by omega)) := List.getElem?_eq_getElem (by omega)
    rw [stepsU, stepsU_there h n (by omega), h n _ hl, take_one hl]
theorem stepsU_same {er : σ → Int} {I : σ → Prop} (hs : ∀ j s, er s ≠ 0 → er (f j s).2 = er s) (h0 : I s) (hi : ∀ j s, I s → I (f j s).2) (h : ∀ j s, I s → er (f j s).2 = 0 → g j s = f j s) : ∀ n, er (stepsU f s n).2 = 0 → stepsU g s n = stepsU f s n
  | 0, _ => rfl
  | n + 1, he => by
    have ih := stepsU_same hs h0 hi h n (stepsU_zero hs (Nat.le_succ n) he)
    rw [stepsU, stepsU, ih, h n _ (stepsU_inv h0 hi n) he]
end

/-! What is taken. -/
abbrev m64 : Int := 18446744073709551615
def stU (e q : Int) : Int := if e = 0 then q else e
theorem stU_zero (q : Int) : stU 0 q = q := rfl
theorem stU_kept {e : Int} (h : e ≠ 0) (q : Int) : stU e q = e := if_neg h
theorem stU_ne (e : Int) {q : Int} (h : q ≠ 0) : stU e q ≠ 0 := by
  unfold stU
  split
  · exact h
  · assumption
/-- The next number, the next number unfolded, the next text. -/
def nx (m : Int) (xs : List Int) (p : Nat) (e : Int) : Int × Nat × Int := tk 0 p e (getN m (xs.drop p))
def sx (xs : List Int) (p : Nat) (e : Int) : Int × Nat × Int := tk 0 p e (getS (xs.drop p))
def tx (xs : List Int) (p : Nat) (e : Int) : List Int × Nat × Int := tk [] p e (getT 200 (xs.drop p))
def txtU (D : List (List Int)) (xs : List Int) (p : Nat) (e : Int) : List Int × Nat × Int :=
  if (D.length : Int) ≤ (nx m64 xs p e).1 then ([], (nx m64 xs p e).2.1, stU (nx m64 xs p e).2.2 10) else (D.getD (nx m64 xs p e).1.toNat [], (nx m64 xs p e).2)
def argU (D : List (List Int)) (t : Int) (xs : List Int) (p : Nat) (e : Int) : Ag × Nat × Int :=
  if t = 1 then (⟨t, (sx xs p e).1, []⟩, (sx xs p e).2) else (⟨t, 0, (txtU D xs p e).1⟩, (txtU D xs p e).2)
def argsU (D : List (List Int)) (ts xs : List Int) (s : Nat × Int) (n : Nat) : List Ag × Nat × Int := stepsU (fun j s => argU D (ts.getD j 0) xs s.1 s.2) s n
def evU (sig : List Pr) (D : List (List Int)) (xs : List Int) (p : Nat) (e : Int) : Ev × Nat × Int :=
  if (sig.length : Int) ≤ (nx m64 xs p e).1 then (⟨0, []⟩, (nx m64 xs p e).2.1, stU (nx m64 xs p e).2.2 9)
  else (⟨(nx m64 xs p e).1, (argsU D (sig.getD (nx m64 xs p e).1.toNat default).args xs (nx m64 xs p e).2 (sig.getD (nx m64 xs p e).1.toNat default).args.length).1⟩,
    (argsU D (sig.getD (nx m64 xs p e).1.toNat default).args xs (nx m64 xs p e).2 (sig.getD (nx m64 xs p e).1.toNat default).args.length).2)
def evnU (sig : List Pr) (D : List (List Int)) (xs : List Int) (s : Nat × Int) (n : Nat) : List Ev × Nat × Int := stepsU (fun _ s => evU sig D xs s.1 s.2) s n
def evsU (sig : List Pr) (D : List (List Int)) (xs : List Int) (p : Nat) (e : Int) : List Ev × Nat × Int := evnU sig D xs (nx 1024 xs p e).2 (nx 1024 xs p e).1.toNat
def laterU (xs : List Int) (tm : Int) (p : Nat) (e : Int) : Int × Nat × Int :=
  ((tm + (nx m64 xs p e).1) % 18446744073709551616, (nx m64 xs p e).2.1, if m64 - tm < (nx m64 xs p e).1 then stU (nx m64 xs p e).2.2 8 else (nx m64 xs p e).2.2)
def whenU (xs : List Int) (i : Nat) (s : Int × Nat × Int) : Int × Nat × Int := if i = 0 then s else laterU xs s.1 s.2.1 s.2.2
def ptU (sig : List Pr) (D : List (List Int)) (xs : List Int) (i : Nat) (s : Int × Nat × Int) : Pn × Int × Nat × Int :=
  (⟨(whenU xs i s).1, (evsU sig D xs (whenU xs i s).2.1 (whenU xs i s).2.2).1⟩, (whenU xs i s).1, (evsU sig D xs (whenU xs i s).2.1 (whenU xs i s).2.2).2)
def ptsU (sig : List Pr) (D : List (List Int)) (xs : List Int) (s : Int × Nat × Int) (n : Nat) : List Pn × Int × Nat × Int := stepsU (ptU sig D xs) s n
def countU (xs : List Int) (p : Nat) (e : Int) : Int × Nat × Int := ((nx 1024 xs p e).1, (nx 1024 xs p e).2.1, if (nx 1024 xs p e).1 = 0 then stU (nx 1024 xs p e).2.2 4 else (nx 1024 xs p e).2.2)
def txsU (xs : List Int) (s : Nat × Int) (n : Nat) : List (List Int) × Nat × Int := stepsU (fun _ s => tx xs s.1 s.2) s n
def dictU (xs : List Int) (p : Nat) (e : Int) : List (List Int) × Nat × Int := txsU xs (nx 4096 xs p e).2 (nx 4096 xs p e).1.toNat
/-- The first time, how many points, the texts; then the points. -/
def baseU (xs : List Int) : Int × Nat × Int := nx m64 xs 0 0
def cntU (xs : List Int) : Int × Nat × Int := countU xs (baseU xs).2.1 (baseU xs).2.2
def dicU (xs : List Int) : List (List Int) × Nat × Int := dictU xs (cntU xs).2.1 (cntU xs).2.2
def readU (sig : List Pr) (xs : List Int) : List Pn × Int × Nat × Int := ptsU sig (dicU xs).1 xs ((baseU xs).1, (dicU xs).2) (cntU xs).1.toNat

/-! Addresses are of no account. -/
def bareE (e : Ev) : Em := ⟨e.p, e.args, none, 0⟩
def bareP (p : Pn) : Pm := ⟨p.tm, p.evs.map bareE, none, 0⟩
def bare (d : Pm) : Pm := bareP d.p
theorem bareE_e (e : Ev) : (bareE e).e = e := rfl
theorem bareP_p (p : Pn) : (bareP p).p = p := by
  obtain ⟨t, l⟩ := p
  simp only [bareP, Pm.p, List.map_map]
  congr 1
  rw [show ((fun x : Em => x.e) ∘ bareE) = id from rfl, List.map_id]
theorem map_bare_p (l : List Pn) : (l.map bareP).map (·.p) = l := by
  rw [List.map_map, show ((fun x : Pm => x.p) ∘ bareP) = id from funext bareP_p, List.map_id]
theorem addE_bare : ∀ (l : List Em) (L : List (List Int)), addE L (l.map fun e => bareE e.e) = addE L l
  | [], _ => rfl
  | e :: l, L => addE_bare l (addA L e.args)
theorem addT_bare : ∀ (l : List Pm) (L : List (List Int)), addT L (l.map bare) = addT L l
  | [], _ => rfl
  | p :: l, L => by
    show addT (addE L (bare p).evs) (l.map bare) = addT (addE L p.evs) l
    rw [show (bare p).evs = p.evs.map fun e => bareE e.e by simp [bare, bareP, List.map_map], addE_bare]
    exact addT_bare l _
theorem evsB_bare (D : List (List Int)) (p : Pm) : evsB D (bare p).evs = evsB D p.evs := by
  rw [show (bare p).evs = p.evs.map fun e => bareE e.e by simp [bare, bareP, List.map_map]]
  unfold evsB evlB
  rw [List.length_map, List.flatMap_map]
  rfl
theorem bare_at (l : List Pm) (i : Nat) : (l.map bare)[i]? = (l[i]?).map bare := List.getElem?_map
theorem tmAt_bare (l : List Pm) (i : Nat) : tmAt (l.map bare) i = tmAt l i := by
  unfold tmAt
  rw [bare_at]
  cases l[i]? <;> rfl
theorem ptB_bare (D : List (List Int)) (l : List Pm) (i : Nat) : ptB D (l.map bare) i = ptB D l i := by
  unfold ptB stepN
  rw [tmAt_bare, tmAt_bare]
  congr 1
  unfold evsAt
  rw [bare_at]
  cases l[i]? with
  | none => rfl
  | some p => exact evsB_bare D p
theorem payB_bare (l : List Pm) : payB (l.map bare) = payB l := by
  unfold payB headB ptsB
  rw [tmAt_bare, addT_bare, List.length_map]
  congr 2
  exact flatMap_same fun i _ => ptB_bare _ _ _
theorem bare_p (d : Pm) : (bare d).p = d.p := bareP_p _
theorem putB_bare (sig : List Pr) (l : List Pm) : putB sig (l.map bare) = putB sig l := by
  have h : checkB sig (l.map bare) = checkB sig l := by
    unfold checkB
    rw [List.length_map, List.map_map, show ((fun x : Pm => x.p) ∘ bare) = (·.p) from funext bare_p]
  unfold putB
  rw [h, payB_bare]
theorem putB_plain (sig : List Pr) (l : List Pm) : putB sig ((l.map (·.p)).map bareP) = putB sig l := by
  rw [List.map_map]
  exact putB_bare sig l

/-- What stands at the end: an error, or bytes that are left, or what is wrong with what was read. -/
def wayU (sig : List Pr) (xs : List Int) (l : List Pn) : Int := if 4096 < xs.length then 6 else if putB sig (l.map bareP) = (xs, 0) then 0 else 4
def endU (sig : List Pr) (xs : List Int) (r : List Pn × Int × Nat × Int) : Int := if r.2.2.2 ≠ 0 then r.2.2.2 else if r.2.2.1 < xs.length then 4 else wayU sig xs r.1
/-- The points of a payload, or why there are none. -/
def getU (sig : List Pr) (xs : List Int) : List Pn × Int :=
  if checkP sig ≠ 0 then ([], checkP sig) else if endU sig xs (readU sig xs) ≠ 0 then ([], endU sig xs (readU sig xs)) else ((readU sig xs).1, 0)

/-! What each bounds. -/
section
variable {xs : List Int} {p : Nat} {e m : Int} {D : List (List Int)} {sig : List Pr}
theorem nx_stop (h : e ≠ 0) : nx m xs p e = (0, p, e) := tk_stopped h
theorem sx_stop (h : e ≠ 0) : sx xs p e = (0, p, e) := tk_stopped h
theorem tx_stop (h : e ≠ 0) : tx xs p e = ([], p, e) := tk_stopped h
theorem txtU_stop (h : e ≠ 0) : (txtU D xs p e).2 = (p, e) := by
  unfold txtU
  rw [nx_stop h]
  split
  · rw [stU_kept h]
  · rfl
theorem argU_stop {t : Int} (h : e ≠ 0) : (argU D t xs p e).2 = (p, e) := by
  unfold argU
  split
  · rw [sx_stop h]
  · exact txtU_stop h
theorem argsU_stop {ts : List Int} (h : e ≠ 0) (n : Nat) : (argsU D ts xs (p, e) n).2.2 = e :=
  stepsU_stop (f := fun j s => argU D (ts.getD j 0) xs s.1 s.2) (s := (p, e)) (er := fun s : Nat × Int => s.2) (k := 0) (fun j s hs => by rw [argU_stop hs]) h n (Nat.zero_le n)
theorem evU_stop (h : e ≠ 0) : (evU sig D xs p e).2.2 = e := by
  unfold evU
  rw [nx_stop h]
  split
  · exact stU_kept h 9
  · exact argsU_stop h _
theorem evnU_stop (h : e ≠ 0) (n : Nat) : (evnU sig D xs (p, e) n).2.2 = e :=
  stepsU_stop (f := fun _ s => evU sig D xs s.1 s.2) (s := (p, e)) (er := fun s : Nat × Int => s.2) (k := 0) (fun j s hs => evU_stop hs) h n (Nat.zero_le n)
theorem evsU_stop (h : e ≠ 0) : (evsU sig D xs p e).2.2 = e := by
  unfold evsU
  rw [nx_stop h]
  exact evnU_stop h _
theorem laterU_stop {tm : Int} (h : e ≠ 0) : (laterU xs tm p e).2.2 = e := by
  unfold laterU
  rw [nx_stop h]
  dsimp only
  split
  · exact stU_kept h 8
  · rfl
theorem ptU_stop {i : Nat} {s : Int × Nat × Int} (h : s.2.2 ≠ 0) : (ptU sig D xs i s).2.2.2 = s.2.2 := by
  unfold ptU whenU
  dsimp only
  split
  · exact evsU_stop h
  · have h2 := laterU_stop (xs := xs) (tm := s.1) (p := s.2.1) h
    rw [evsU_stop (by rw [h2]; exact h), h2]
theorem txsU_stop (h : e ≠ 0) (n : Nat) : (txsU xs (p, e) n).2.2 = e :=
  stepsU_stop (f := fun _ s => tx xs s.1 s.2) (s := (p, e)) (er := fun s : Nat × Int => s.2) (k := 0) (fun j s hs => by rw [tx_stop hs]) h n (Nat.zero_le n)
theorem dictU_stop (h : e ≠ 0) : (dictU xs p e).2.2 = e := by
  unfold dictU
  rw [nx_stop h]
  exact txsU_stop h _
theorem countU_stop (h : e ≠ 0) : (countU xs p e).2.2 = e := by
  unfold countU
  rw [nx_stop h]
  exact stU_kept h 4
end
section
variable {xs : List Int} {p : Nat} {e m : Int} {D : List (List Int)} {sig : List Pr} (hb : ∀ x ∈ xs, 0 ≤ x ∧ x < 256)
include hb
theorem nx_range (hm : 0 ≤ m) (hp : p ≤ xs.length) : (∃ n : Nat, (nx m xs p e).1 = (n : Int) ∧ (n : Int) ≤ m ∧ n < 18446744073709551616) ∧ p ≤ (nx m xs p e).2.1 ∧ (nx m xs p e).2.1 ≤ xs.length := by
  obtain ⟨h1, h2, _⟩ := tk_never (z := (0 : Int)) (e := e) (r := getN m (xs.drop p)) hp (fun h => by have := (getN_fits m (xs.drop p) (drop_bytes hb p)).1 h; rw [List.length_drop] at this; exact this)
  refine ⟨?_, h1, h2⟩
  unfold nx tk
  split
  · exact ⟨0, rfl, hm, by omega⟩
  · split
    · exact ⟨0, rfl, hm, by omega⟩
    · rename_i _ h
      have h0 : (getN m (xs.drop p)).2.2 = 0 := by simpa using h
      have hr := getI_range (xs.drop p) (drop_bytes hb p)
      unfold getN at h0 ⊢
      split
      · rename_i q
        rw [if_pos q] at h0
        cases h0
      · rename_i q
        rw [if_neg q] at h0
        have : ¬ m < (getI (xs.drop p)).1 := fun h => q ⟨h0, h⟩
        exact ⟨(getI (xs.drop p)).1.toNat, by simp only; omega, by omega, by omega⟩
theorem nx_le (hm : 0 ≤ m) (hp : p ≤ xs.length) : (nx m xs p e).2.1 ≤ xs.length := (nx_range hb hm hp).2.2
theorem sx_range (hp : p ≤ xs.length) : (-9223372036854775808 ≤ (sx xs p e).1 ∧ (sx xs p e).1 ≤ 9223372036854775807) ∧ (sx xs p e).2.1 ≤ xs.length := by
  obtain ⟨_, h2, _⟩ := tk_never (z := (0 : Int)) (e := e) (r := getS (xs.drop p)) hp (fun h => by have := (getS_fits (xs.drop p) (drop_bytes hb p)).1 h; rw [List.length_drop] at this; exact this)
  refine ⟨?_, h2⟩
  unfold sx tk
  split
  · simp
  · split
    · simp
    · obtain ⟨h3, h4⟩ := getI_range (xs.drop p) (drop_bytes hb p)
      exact unfoldI_range h3 h4
theorem tx_range (hp : p ≤ xs.length) : ((tx xs p e).1.length ≤ 200 ∧ ∀ x ∈ (tx xs p e).1, 0 ≤ x ∧ x < 256) ∧ (tx xs p e).2.1 ≤ xs.length := by
  refine ⟨⟨?_, (tkT_bytes hb 200).2⟩, (tkT_le hb 200 hp).2⟩
  unfold tx tk
  split
  · simp
  · split
    · simp
    · rename_i _ h
      have h0 : (getT 200 (xs.drop p)).2.2 = 0 := by simpa using h
      unfold getT at h0 ⊢
      split
      · simp
      · split
        · simp
        · split
          · simp
          · simp only [List.length_take, List.length_drop]
            omega
theorem txtU_range (hD : Tx200 D) (hp : p ≤ xs.length) : ((txtU D xs p e).1.length ≤ 200 ∧ ∀ x ∈ (txtU D xs p e).1, 0 ≤ x ∧ x < 256) ∧ (txtU D xs p e).2.1 ≤ xs.length := by
  obtain ⟨⟨n, h1, _, _⟩, _, h2⟩ := nx_range (e := e) hb (m := m64) (by decide) hp
  unfold txtU
  rw [h1]
  split
  · exact ⟨by simp, h2⟩
  · rename_i h
    refine ⟨?_, h2⟩
    rw [Int.toNat_natCast]
    have hlt : n < D.length := by omega
    rw [List.getD, List.getElem?_eq_getElem hlt, Option.getD_some]
    exact hD _ (List.getElem_mem hlt)
theorem argU_range {t : Int} (ht : -9223372036854775808 ≤ t ∧ t ≤ 9223372036854775807) (hD : Tx200 D) (hp : p ≤ xs.length) : (argU D t xs p e).1.Fits ∧ (argU D t xs p e).2.1 ≤ xs.length := by
  unfold argU
  split
  · obtain ⟨h1, h2⟩ := sx_range (e := e) hb hp
    exact ⟨⟨by simp, by simp, ht, h1⟩, h2⟩
  · obtain ⟨⟨h1, h2⟩, h3⟩ := txtU_range (e := e) hb hD hp
    exact ⟨⟨by simp only [Go.maxLen]; omega, h2, ht, by simp⟩, h3⟩
theorem argsU_range {ts : List Int} (ht : ∀ t ∈ ts, -9223372036854775808 ≤ t ∧ t ≤ 9223372036854775807) (hD : Tx200 D) (hp : p ≤ xs.length) (n : Nat) : (∀ a ∈ (argsU D ts xs (p, e) n).1, a.Fits) ∧ (argsU D ts xs (p, e) n).2.1 ≤ xs.length := by
  have key : ∀ (j : Nat) (s : Nat × Int), s.1 ≤ xs.length → (argU D (ts.getD j 0) xs s.1 s.2).2.1 ≤ xs.length ∧ (argU D (ts.getD j 0) xs s.1 s.2).1.Fits := fun j s hs => by
    have htj : -9223372036854775808 ≤ ts.getD j 0 ∧ ts.getD j 0 ≤ 9223372036854775807 := by
      by_cases hj : j < ts.length
      · rw [List.getD, List.getElem?_eq_getElem hj]; exact ht _ (List.getElem_mem hj)
      · rw [List.getD, List.getElem?_eq_none (by omega)]; simp
    exact (argU_range hb htj hD hs).symm
  exact ⟨stepsU_all (I := fun s : Nat × Int => s.1 ≤ xs.length) hp key n, stepsU_inv (I := fun s : Nat × Int => s.1 ≤ xs.length) hp (fun j s hs => (key j s hs).1) n⟩
theorem evU_range (hs : ∀ q ∈ sig, ∀ t ∈ q.args, -9223372036854775808 ≤ t ∧ t ≤ 9223372036854775807) (hD : Tx200 D) (hp : p ≤ xs.length) : (∀ a ∈ (evU sig D xs p e).1.args, a.Fits) ∧ (evU sig D xs p e).2.1 ≤ xs.length := by
  obtain ⟨⟨n, h1, _, _⟩, _, h2⟩ := nx_range (e := e) hb (m := m64) (by decide) hp
  unfold evU
  rw [h1]
  split
  · exact ⟨by simp, h2⟩
  · rename_i h
    rw [Int.toNat_natCast]
    have hlt : n < sig.length := by omega
    refine argsU_range hb (fun t ht => ?_) hD h2 _
    rw [List.getD, List.getElem?_eq_getElem hlt, Option.getD_some] at ht
    exact hs _ (List.getElem_mem hlt) t ht
theorem evnU_le (hs : ∀ q ∈ sig, ∀ t ∈ q.args, -9223372036854775808 ≤ t ∧ t ≤ 9223372036854775807) (hD : Tx200 D) (hp : p ≤ xs.length) (n : Nat) : (evnU sig D xs (p, e) n).2.1 ≤ xs.length :=
  stepsU_inv (I := fun s : Nat × Int => s.1 ≤ xs.length) hp (fun j s h => (evU_range hb hs hD h).2) n
theorem evsU_le (hs : ∀ q ∈ sig, ∀ t ∈ q.args, -9223372036854775808 ≤ t ∧ t ≤ 9223372036854775807) (hD : Tx200 D) (hp : p ≤ xs.length) : (evsU sig D xs p e).2.1 ≤ xs.length := evnU_le hb hs hD (nx_le hb (by decide) hp) _
theorem laterU_range {tm : Int} (hp : p ≤ xs.length) : (0 ≤ (laterU xs tm p e).1 ∧ (laterU xs tm p e).1 < 18446744073709551616) ∧ (laterU xs tm p e).2.1 ≤ xs.length :=
  ⟨⟨Int.emod_nonneg _ (by decide), Int.emod_lt_of_pos _ (by decide)⟩, nx_le hb (by decide) hp⟩
theorem whenU_range {i : Nat} {s : Int × Nat × Int} (hp : s.2.1 ≤ xs.length) (ht : 0 ≤ s.1 ∧ s.1 < 18446744073709551616) : (0 ≤ (whenU xs i s).1 ∧ (whenU xs i s).1 < 18446744073709551616) ∧ (whenU xs i s).2.1 ≤ xs.length := by
  unfold whenU
  split
  · exact ⟨ht, hp⟩
  · exact laterU_range hb hp
theorem ptU_range {i : Nat} {s : Int × Nat × Int} (hs : ∀ q ∈ sig, ∀ t ∈ q.args, -9223372036854775808 ≤ t ∧ t ≤ 9223372036854775807) (hD : Tx200 D) (hp : s.2.1 ≤ xs.length) (ht : 0 ≤ s.1 ∧ s.1 < 18446744073709551616) :
    (ptU sig D xs i s).2.2.1 ≤ xs.length ∧ 0 ≤ (ptU sig D xs i s).2.1 ∧ (ptU sig D xs i s).2.1 < 18446744073709551616 := by
  obtain ⟨h1, h2⟩ := whenU_range (i := i) hb hp ht
  exact ⟨evsU_le hb hs hD h2, h1⟩
theorem ptsU_range {s : Int × Nat × Int} (hs : ∀ q ∈ sig, ∀ t ∈ q.args, -9223372036854775808 ≤ t ∧ t ≤ 9223372036854775807) (hD : Tx200 D) (hp : s.2.1 ≤ xs.length) (ht : 0 ≤ s.1 ∧ s.1 < 18446744073709551616) (n : Nat) :
    (ptsU sig D xs s n).2.2.1 ≤ xs.length ∧ 0 ≤ (ptsU sig D xs s n).2.1 ∧ (ptsU sig D xs s n).2.1 < 18446744073709551616 :=
  stepsU_inv (I := fun s : Int × Nat × Int => s.2.1 ≤ xs.length ∧ 0 ≤ s.1 ∧ s.1 < 18446744073709551616) ⟨hp, ht⟩ (fun j s h => ptU_range hb hs hD h.1 h.2) n
theorem txsU_range (hp : p ≤ xs.length) (n : Nat) : Tx200 (txsU xs (p, e) n).1 ∧ (txsU xs (p, e) n).2.1 ≤ xs.length :=
  ⟨stepsU_all (I := fun s : Nat × Int => s.1 ≤ xs.length) hp (fun j s h => ⟨(tx_range hb h).2, (tx_range hb h).1⟩) n, stepsU_inv (I := fun s : Nat × Int => s.1 ≤ xs.length) hp (fun j s h => (tx_range hb h).2) n⟩
theorem dictU_range (hp : p ≤ xs.length) : Tx200 (dictU xs p e).1 ∧ (dictU xs p e).2.1 ≤ xs.length := txsU_range hb (nx_le hb (by decide) hp) _
theorem countU_range (hp : p ≤ xs.length) : (∃ n : Nat, (countU xs p e).1 = (n : Int) ∧ n ≤ 1024) ∧ (countU xs p e).2.1 ≤ xs.length := by
  obtain ⟨⟨n, h1, h2, _⟩, _, h3⟩ := nx_range (e := e) hb (m := 1024) (by decide) hp
  exact ⟨⟨n, h1, by omega⟩, h3⟩
theorem cntU_range : (∃ n : Nat, (cntU xs).1 = (n : Int) ∧ n ≤ 1024) ∧ (cntU xs).2.1 ≤ xs.length := countU_range hb (nx_le hb (by decide) (Nat.zero_le _))
theorem dicU_range : Tx200 (dicU xs).1 ∧ (dicU xs).2.1 ≤ xs.length := dictU_range hb (cntU_range hb).2
theorem readU_le (hs : ∀ q ∈ sig, ∀ t ∈ q.args, -9223372036854775808 ≤ t ∧ t ≤ 9223372036854775807) : (readU sig xs).2.2.1 ≤ xs.length := by
  obtain ⟨⟨n, h1, _, h4⟩, _, h3⟩ := nx_range (e := 0) hb (m := m64) (by decide) (Nat.zero_le xs.length)
  have h1 : (baseU xs).1 = (n : Int) := h1
  obtain ⟨d1, d2⟩ := dicU_range hb
  exact (ptsU_range (s := ((baseU xs).1, (dicU xs).2)) hb hs d1 d2 (by rw [h1]; omega) _).1
end

/-! With more behind. -/
section
variable {xs zs : List Int} {p : Nat} {e m : Int} {D : List (List Int)} {sig : List Pr} (hb : ∀ x ∈ xs, 0 ≤ x ∧ x < 256)
include hb
theorem getI_more (h : (getI xs).2.2 = 0) : getI (xs ++ zs) = getI xs := by
  obtain ⟨n, s, h1, _, h3, _, h5, h6⟩ := getI_ok xs hb h
  have e1 : xs ++ zs = encI n ++ (xs.drop s ++ zs) := by rw [h5, ← List.append_assoc, List.take_append_drop]
  have hl : (encI n).length = s := by rw [h5, List.length_take]; omega
  rw [h1, e1, getI_enc h6, hl]
theorem getN_more (h : (getN m xs).2.2 = 0) : getN m (xs ++ zs) = getN m xs := by
  unfold getN at h ⊢
  split at h
  · cases h
  · rename_i h2
    rw [getI_more hb h]
theorem getS_more (h : (getS xs).2.2 = 0) : getS (xs ++ zs) = getS xs := by
  unfold getS at h ⊢
  rw [getI_more hb h]
theorem getT_more (h : (getT m xs).2.2 = 0) : getT m (xs ++ zs) = getT m xs := by
  by_cases he : (getI xs).2.2 = 0
  · obtain ⟨n, s, hg, h1, h2, h3, h4, h5⟩ := getI_ok xs hb he
    have hg2 : getI (xs ++ zs) = ((n : Int), s, 0) := by rw [getI_more hb he, hg]
    by_cases hl : max m 0 < (n : Int)
    · rw [getT_limit hg hl] at h; simp at h
    · by_cases hs : xs.length - s < n
      · rw [getT_short hg hl hs] at h; simp at h
      · rw [getT_ok hg hl hs, getT_ok hg2 hl (by rw [List.length_append]; omega), List.drop_append_of_le_length h2, List.take_append_of_le_length (by rw [List.length_drop]; omega)]
  · rw [getT_err rfl he] at h
    exact absurd h he
theorem tk_more {α : Type} {z : α} {get : List Int → α × Nat × Int} (hg : ∀ ys : List Int, (∀ x ∈ ys, 0 ≤ x ∧ x < 256) → (get ys).2.2 = 0 → get (ys ++ zs) = get ys) (hp : p ≤ xs.length) (h : (tk z p e (get (xs.drop p))).2.2 = 0) :
    tk z p e (get ((xs ++ zs).drop p)) = tk z p e (get (xs.drop p)) := by
  by_cases he : e = 0
  · subst he
    by_cases h2 : (get (xs.drop p)).2.2 = 0
    · rw [List.drop_append_of_le_length hp, hg _ (drop_bytes hb p) h2]
    · rw [tk_err h2] at h
      exact absurd h h2
  · rw [tk_stopped he] at h
    exact absurd h he
theorem nx_more (hp : p ≤ xs.length) (h : (nx m xs p e).2.2 = 0) : nx m (xs ++ zs) p e = nx m xs p e := tk_more hb (fun _ hy => getN_more hy) hp h
theorem sx_more (hp : p ≤ xs.length) (h : (sx xs p e).2.2 = 0) : sx (xs ++ zs) p e = sx xs p e := tk_more hb (fun _ hy => getS_more hy) hp h
theorem tx_more (hp : p ≤ xs.length) (h : (tx xs p e).2.2 = 0) : tx (xs ++ zs) p e = tx xs p e := tk_more hb (fun _ hy => getT_more hy) hp h
theorem txtU_more (hp : p ≤ xs.length) (h : (txtU D xs p e).2.2 = 0) : txtU D (xs ++ zs) p e = txtU D xs p e := by
  have h2 : (nx m64 xs p e).2.2 = 0 := by
    unfold txtU at h
    split at h
    · exact absurd h (stU_ne _ (by decide))
    · exact h
  unfold txtU
  rw [nx_more hb hp h2]
theorem argU_more {t : Int} (hp : p ≤ xs.length) (h : (argU D t xs p e).2.2 = 0) : argU D t (xs ++ zs) p e = argU D t xs p e := by
  unfold argU at h ⊢
  split at h
  · rename_i ht
    rw [if_pos ht, if_pos ht, sx_more hb hp h]
  · rename_i ht
    rw [if_neg ht, if_neg ht, txtU_more hb hp h]
variable (hs : ∀ q ∈ sig, ∀ t ∈ q.args, -9223372036854775808 ≤ t ∧ t ≤ 9223372036854775807) (hD : Tx200 D)
theorem argU_le {t : Int} (hp : p ≤ xs.length) : (argU D t xs p e).2.1 ≤ xs.length := by
  unfold argU
  split
  · exact (sx_range hb hp).2
  · unfold txtU
    split
    · exact nx_le hb (by decide) hp
    · exact nx_le hb (by decide) hp
theorem argsU_more {ts : List Int} (hp : p ≤ xs.length) (n : Nat) (h : (argsU D ts xs (p, e) n).2.2 = 0) : argsU D ts (xs ++ zs) (p, e) n = argsU D ts xs (p, e) n :=
  stepsU_same (er := fun s : Nat × Int => s.2) (I := fun s : Nat × Int => s.1 ≤ xs.length) (fun j s hs => by rw [argU_stop hs]) hp (fun j s h => argU_le hb h) (fun j s h1 h2 => argU_more hb h1 h2) n h
theorem evU_more (hp : p ≤ xs.length) (h : (evU sig D xs p e).2.2 = 0) : evU sig D (xs ++ zs) p e = evU sig D xs p e := by
  have h2 : (nx m64 xs p e).2.2 = 0 := Classical.byContradiction fun q => by
    unfold evU at h
    split at h
    · exact absurd h (stU_ne _ (by decide))
    · rw [show (nx m64 xs p e).2 = ((nx m64 xs p e).2.1, (nx m64 xs p e).2.2) from rfl] at h
      rw [argsU_stop q] at h
      exact q h
  unfold evU at h ⊢
  rw [nx_more hb hp h2]
  split at h
  · rename_i h3
    rw [if_pos h3, if_pos h3]
  · rename_i h3
    rw [if_neg h3, if_neg h3, argsU_more hb (nx_le hb (by decide) hp) _ h]
include hs hD
theorem evnU_more (hp : p ≤ xs.length) (n : Nat) (h : (evnU sig D xs (p, e) n).2.2 = 0) : evnU sig D (xs ++ zs) (p, e) n = evnU sig D xs (p, e) n :=
  stepsU_same (er := fun s : Nat × Int => s.2) (I := fun s : Nat × Int => s.1 ≤ xs.length) (fun j s h => evU_stop h) hp (fun j s h => (evU_range hb hs hD h).2) (fun j s h1 h2 => evU_more hb h1 h2) n h
theorem evsU_more (hp : p ≤ xs.length) (h : (evsU sig D xs p e).2.2 = 0) : evsU sig D (xs ++ zs) p e = evsU sig D xs p e := by
  have h2 : (nx 1024 xs p e).2.2 = 0 := Classical.byContradiction fun q => by
    unfold evsU at h
    rw [show (nx 1024 xs p e).2 = ((nx 1024 xs p e).2.1, (nx 1024 xs p e).2.2) from rfl, evnU_stop q] at h
    exact q h
  unfold evsU at h ⊢
  rw [nx_more hb hp h2, evnU_more hb hs hD (nx_le hb (by decide) hp) _ h]
theorem ptU_more {i : Nat} {s : Int × Nat × Int} (hp : s.2.1 ≤ xs.length) (ht : 0 ≤ s.1 ∧ s.1 < 18446744073709551616) (h : (ptU sig D xs i s).2.2.2 = 0) : ptU sig D (xs ++ zs) i s = ptU sig D xs i s := by
  have h1 : (whenU xs i s).2.2 = 0 := Classical.byContradiction fun q => by
    have h' : (evsU sig D xs (whenU xs i s).2.1 (whenU xs i s).2.2).2.2 = 0 := h
    rw [evsU_stop q] at h'
    exact q h'
  have h2 : whenU (xs ++ zs) i s = whenU xs i s := by
    unfold whenU at h1 ⊢
    split at h1
    · rename_i h3
      rw [if_pos h3, if_pos h3]
    · rename_i h3
      rw [if_neg h3, if_neg h3]
      have h4 : (nx m64 xs s.2.1 s.2.2).2.2 = 0 := Classical.byContradiction fun q => by
        unfold laterU at h1
        dsimp only at h1
        split at h1
        · exact stU_ne _ (by decide) h1
        · exact q h1
      unfold laterU
      rw [nx_more hb hp h4]
  unfold ptU
  rw [h2, evsU_more hb hs hD (whenU_range hb hp ht).2 h]
omit hD in
theorem readU_more (h : (readU sig xs).2.2.2 = 0) : readU sig (xs ++ zs) = readU sig xs := by
  obtain ⟨⟨n, n1, _, n4⟩, _, n3⟩ := nx_range (e := 0) hb (m := m64) (by decide) (Nat.zero_le xs.length)
  have n1 : (baseU xs).1 = (n : Int) := n1
  have n3 : (baseU xs).2.1 ≤ xs.length := n3
  obtain ⟨_, c2⟩ := cntU_range hb
  obtain ⟨d1, d2⟩ := dicU_range hb
  have hst : ∀ j (s : Int × Nat × Int), s.2.2 ≠ 0 → (ptU sig (dicU xs).1 xs j s).2.2.2 = s.2.2 := fun j s q => ptU_stop q
  have e1 : (dicU xs).2.2 = 0 := Classical.byContradiction fun q => by
    have h2 := stepsU_stop (f := ptU sig (dicU xs).1 xs) (s := ((baseU xs).1, (dicU xs).2)) (er := fun s : Int × Nat × Int => s.2.2) (k := 0) hst q (cntU xs).1.toNat (Nat.zero_le _)
    exact q (h2.symm.trans h)
  have e2 : (cntU xs).2.2 = 0 := Classical.byContradiction fun q => q (by rw [← dictU_stop (xs := xs) (p := (cntU xs).2.1) q]; exact e1)
  have e3 : (baseU xs).2.2 = 0 := Classical.byContradiction fun q => q (by rw [← countU_stop (xs := xs) (p := (baseU xs).2.1) q]; exact e2)
  have q3 : baseU (xs ++ zs) = baseU xs := nx_more hb (Nat.zero_le _) e3
  have q2 : cntU (xs ++ zs) = cntU xs := by
    unfold cntU
    rw [q3]
    have e4 : (nx 1024 xs (baseU xs).2.1 (baseU xs).2.2).2.2 = 0 := Classical.byContradiction fun q => by
      unfold cntU countU at e2
      dsimp only at e2
      split at e2
      · exact stU_ne _ (by decide) e2
      · exact q e2
    unfold countU
    rw [nx_more hb n3 e4]
  have q1 : dicU (xs ++ zs) = dicU xs := by
    have e4 : (nx 4096 xs (cntU xs).2.1 (cntU xs).2.2).2.2 = 0 := Classical.byContradiction fun q => by
      unfold dicU dictU at e1
      rw [show (nx 4096 xs (cntU xs).2.1 (cntU xs).2.2).2 = ((nx 4096 xs (cntU xs).2.1 (cntU xs).2.2).2.1, (nx 4096 xs (cntU xs).2.1 (cntU xs).2.2).2.2) from rfl, txsU_stop q] at e1
      exact q e1
    unfold dicU
    rw [q2]
    unfold dicU dictU at e1
    unfold dictU
    rw [nx_more hb c2 e4]
    exact stepsU_same (er := fun s : Nat × Int => s.2) (I := fun s : Nat × Int => s.1 ≤ xs.length) (fun j s hs => by rw [tx_stop hs]) (nx_le hb (by decide) c2) (fun j s h => (tx_range hb h).2) (fun j s h1 h2 => tx_more hb h1 h2) _ e1
  unfold readU
  rw [q1, q2, q3]
  exact stepsU_same (er := fun s : Int × Nat × Int => s.2.2) (I := fun s : Int × Nat × Int => s.2.1 ≤ xs.length ∧ 0 ≤ s.1 ∧ s.1 < 18446744073709551616) hst ⟨d2, by rw [n1]; omega⟩ (fun j s h => ptU_range hb hs d1 h.1 h.2) (fun j s h1 h2 => ptU_more hb hs d1 h1.1 h1.2 h2) _ h
end
end Go.Proofs.Ytlmpicfhbpnpbaa

namespace Go.Proofs.Ytlmpicfhbpnpbaa
set_option linter.unusedVariables false

theorem drop_past {xs a ys : List Int} {p : Nat} (h : xs.drop p = a ++ ys) : xs.drop (p + a.length) = ys := by rw [← List.drop_drop, h, List.drop_left]
section
variable {xs ys : List Int} {p : Nat}
theorem nx_there {n : Nat} {m : Int} (h : xs.drop p = encI n ++ ys) (hn : n < 18446744073709551616) (hm : (n : Int) ≤ m) : nx m xs p 0 = ((n : Int), p + (encI n).length, 0) := by
  unfold nx
  have e : getN m (xs.drop p) = ((n : Int), (encI n).length, 0) := by
    unfold getN
    rw [h, getI_enc hn, if_neg (fun q => by have := q.2; simp only at this; omega)]
  rw [e, tk_ok rfl]
theorem sx_there {x : Int} (h : xs.drop p = encI (foldI x).toNat ++ ys) (h1 : -9223372036854775808 ≤ x) (h2 : x ≤ 9223372036854775807) : sx xs p 0 = (x, p + (encI (foldI x).toNat).length, 0) := by
  obtain ⟨f1, f2⟩ := foldI_range h1 h2
  unfold sx
  have e : getS (xs.drop p) = (x, (encI (foldI x).toNat).length, 0) := by
    unfold getS
    rw [h, getI_enc (by omega)]
    simp only [Int.toNat_of_nonneg f1, unfold_fold]
  rw [e, tk_ok rfl]
theorem tx_there {t : List Int} (h : xs.drop p = encT t ++ ys) (ht : t.length ≤ 200) : tx xs p 0 = (t, p + (encT t).length, 0) := by
  unfold tx
  rw [h, getT_enc (by omega) (by omega), tk_ok rfl]
end
theorem flatMap_at {α : Type} {f : α → List Int} {l : List α} {j : Nat} {a : α} (h : l[j]? = some a) : l.flatMap f = (l.take j).flatMap f ++ (f a ++ (l.drop (j + 1)).flatMap f) := by
  obtain ⟨hj, ha⟩ := List.getElem?_eq_some_iff.1 h
  have e : l = l.take j ++ (a :: l.drop (j + 1)) := by
    rw [← ha, ← List.drop_eq_getElem_cons hj, List.take_append_drop]
  conv => lhs; rw [e]
  rw [List.flatMap_append, List.flatMap_cons]
theorem stepsU_row {α : Type} {f : Nat → Nat × Int → α × Nat × Int} {xs ys : List Int} {p : Nat} {enc : α → List Int} {l : List α} (hx : xs.drop p = l.flatMap enc ++ ys)
    (h : ∀ j a q zs, l[j]? = some a → xs.drop q = enc a ++ zs → f j (q, 0) = (a, q + (enc a).length, 0)) : stepsU f (p, 0) l.length = (l, p + (l.flatMap enc).length, 0) := by
  have h2 := stepsU_there (f := f) (S := fun j => (p + ((l.take j).flatMap enc).length, (0 : Int))) (l := l) (fun j a ha => by
    have e := flatMap_at (f := enc) ha
    rw [e, List.append_assoc, List.append_assoc] at hx
    rw [h j a _ _ ha (drop_past hx)]
    simp only [take_one ha, List.flatMap_append, List.flatMap_cons, List.flatMap_nil, List.append_nil, List.length_append, Nat.add_assoc]) l.length (Nat.le_refl _)
  simp only [List.take_zero, List.flatMap_nil, List.length_nil, Nat.add_zero, List.take_length] at h2
  exact h2

section
variable {xs ys : List Int} {p : Nat} {D : List (List Int)}
theorem argU_there {t : Int} {a : Ag} (hD : D.length ≤ 4096) (ha : AOk a) (hw : whyG t a = 0) (ht : a.t = 2 → a.s ∈ D) (h : xs.drop p = encI (argN D a) ++ ys) : argU D t xs p 0 = (a, p + (encI (argN D a)).length, 0) := by
  have hlt := argN_lt (D := D) ha (by omega)
  obtain ⟨_, _, _, n1, n2⟩ := ha.fits
  obtain ⟨at', an, as'⟩ := a
  unfold whyG at hw
  simp only at hw ht n1 n2
  split at hw
  · cases hw
  · rename_i e1
    have e1 : at' = t := by simpa using e1
    subst e1
    split at hw
    · cases hw
    · rename_i e2
      split at hw
      · cases hw
      · rename_i e3
        rcases ha.kind with hk | hk
        · simp only at hk
          subst hk
          have es : as' = [] := Classical.byContradiction fun q => e2 ⟨rfl, q⟩
          subst es
          have hv : argN D ⟨1, an, []⟩ = (foldI an).toNat := rfl
          rw [hv] at h ⊢
          unfold argU
          rw [if_pos rfl, sx_there h n1 n2]
        · simp only at hk
          subst hk
          have en : an = 0 := Classical.byContradiction fun q => e3 ⟨rfl, q⟩
          subst en
          have hin := ht rfl
          have hv : argN D ⟨2, 0, as'⟩ = (placeD D as').toNat := rfl
          rcases placeD_ways D as' with ⟨_, q⟩ | ⟨j, j0, j1, j2, _⟩
          · exact absurd hin q
          · rw [hv, j1, Int.toNat_natCast] at h ⊢
            unfold argU
            rw [if_neg (by decide)]
            unfold txtU
            rw [nx_there h (by omega) (by unfold m64; omega), if_neg (by simp only; omega)]
            simp only [Int.toNat_natCast]
            rw [List.getD, j2, Option.getD_some]
theorem argsU_there {ts : List Int} {l : List Ag} (hD : D.length ≤ 4096) (ha : ∀ a ∈ l, AOk a) (hw : ∀ i a, l[i]? = some a → whyG (ts.getD i 0) a = 0) (ht : ∀ a ∈ l, a.t = 2 → a.s ∈ D) (h : xs.drop p = argsB D l ++ ys) :
    argsU D ts xs (p, 0) l.length = (l, p + (argsB D l).length, 0) :=
  stepsU_row (enc := fun a => encI (argN D a)) h fun j a q zs hj hq => argU_there hD (ha a (List.mem_of_getElem? hj)) (hw j a hj) (ht a (List.mem_of_getElem? hj)) hq
theorem evU_there {sig : List Pr} {e : Ev} (hD : D.length ≤ 4096) (hsl : sig.length ≤ 64) (he : eventT sig e = 0) (ha : ∀ a ∈ e.args, AOk a) (ht : ∀ a ∈ e.args, a.t = 2 → a.s ∈ D) (h : xs.drop p = evB D (bareE e) ++ ys) :
    evU sig D xs p 0 = (e, p + (evB D (bareE e)).length, 0) := by
  by_cases hp : e.p < 0 ∨ (sig.length : Int) ≤ e.p
  · rw [eventT_name hp] at he
    cases he
  · obtain ⟨k, hk⟩ : ∃ k : Nat, e.p = (k : Int) := ⟨e.p.toNat, by omega⟩
    obtain ⟨q, hq⟩ : ∃ q, sig[k]? = some q := ⟨_, List.getElem?_eq_getElem (show k < sig.length by omega)⟩
    rw [eventT_has hk hq] at he
    split at he
    · cases he
    · rename_i hl
      have hl : e.args.length = q.args.length := by simpa using hl
      have hwh := firstWhy_zero _ _ he
      have hB : evB D (bareE e) = encI k ++ argsB D e.args := by
        show encI e.p.toNat ++ argsB D e.args = _
        rw [hk, Int.toNat_natCast]
      rw [hB, List.append_assoc] at h
      have hn := nx_there (m := m64) h (by omega) (by unfold m64; omega)
      have hg := argsU_there (ts := q.args) hD ha (fun i a hi => by
        have := hwh i (Nat.zero_le _) (by have := (List.getElem?_eq_some_iff.1 hi).1; omega)
        rwa [getD_of hi] at this) ht (drop_past h)
      unfold evU
      rw [hn, if_neg (by simp only; omega)]
      simp only [Int.toNat_natCast]
      rw [show sig.getD k default = q by simp [List.getD, hq], ← hl, hg, hB]
      obtain ⟨ep, ea⟩ := e
      simp only at hk
      subst hk
      simp only [List.length_append, Nat.add_assoc]
theorem evsU_there {sig : List Pr} {l : List Em} (hD : D.length ≤ 4096) (hsl : sig.length ≤ 64) (hl : l.length ≤ 1024) (he : ∀ e ∈ l, eventT sig e.e = 0 ∧ (∀ a ∈ e.args, AOk a) ∧ ∀ a ∈ e.args, a.t = 2 → a.s ∈ D) (h : xs.drop p = evsB D l ++ ys) :
    evsU sig D xs p 0 = (l.map (·.e), p + (evsB D l).length, 0) := by
  unfold evsB at h
  rw [List.append_assoc] at h
  have hn := nx_there (m := 1024) h (by omega) (by omega)
  have hB : evlB D l = (l.map (·.e)).flatMap (fun e => evB D (bareE e)) := by rw [List.flatMap_map]; rfl
  have h2 := drop_past h
  rw [hB] at h2
  have hg := stepsU_row (f := fun _ s => evU sig D xs s.1 s.2) (enc := fun e => evB D (bareE e)) h2 fun j a q zs hj hq => by
    obtain ⟨e, he1, rfl⟩ := List.mem_map.1 (List.mem_of_getElem? hj)
    obtain ⟨k1, k2, k3⟩ := he e he1
    exact evU_there hD hsl k1 k2 k3 hq
  unfold evsU evnU
  rw [hn]
  simp only [Int.toNat_natCast]
  rw [List.length_map] at hg
  rw [hg, ← hB, evsB, List.length_append, Nat.add_assoc]
end
theorem drop_range (n i : Nat) (h : i < n) : (List.range n)[i]? = some i := by simp [h]
theorem ptsU_there {sig : List Pr} {l : List Pm} {D : List (List Int)} {xs ys : List Int} {p : Nat} (hD : D.length ≤ 4096) (hsl : sig.length ≤ 64) (hB : BOk l) (he : ∀ q ∈ l, ∀ e ∈ q.evs, eventT sig e.e = 0) (ht : ∀ q ∈ l, ∀ e ∈ q.evs, ∀ a ∈ e.args, a.t = 2 → a.s ∈ D)
    (h : xs.drop p = ptsB D l l.length ++ ys) : ptsU sig D xs (tmAt l 0, p, 0) l.length = (l.map (·.p), tmAt l (l.length - 1), p + (ptsB D l l.length).length, 0) := by
  have h2 := stepsU_there (f := ptU sig D xs) (S := fun i => (tmAt l (i - 1), p + (ptsB D l i).length, (0 : Int))) (l := l.map (·.p)) (fun i a ha => by
    rw [List.getElem?_map] at ha
    obtain ⟨q, hq, rfl⟩ : ∃ q, l[i]? = some q ∧ q.p = a := by
      cases hi : l[i]? with
      | none => rw [hi] at ha; cases ha
      | some q => rw [hi] at ha; exact ⟨q, rfl, by simpa using ha⟩
    have hi := (List.getElem?_eq_some_iff.1 hq).1
    have hm := List.mem_of_getElem? hq
    have e := flatMap_at (f := ptB D l) (drop_range l.length i hi)
    have hfit := (hB.pts q hm).fits
    unfold Pm.Fits at hfit
    rw [List.take_range, Nat.min_eq_left (Nat.le_of_lt hi)] at e
    unfold ptsB at h
    rw [e, List.append_assoc, List.append_assoc] at h
    have h3 := drop_past h
    generalize (List.drop (i + 1) (List.range l.length)).flatMap (ptB D l) ++ ys = zs at h3
    change xs.drop (p + (ptsB D l i).length) = ptB D l i ++ zs at h3
    have hsuc : (ptsB D l (i + 1)).length = (ptsB D l i).length + (ptB D l i).length := by rw [ptsB_succ, List.length_append]
    simp only [Nat.add_sub_cancel]
    rw [hsuc, ← Nat.add_assoc]
    generalize p + (ptsB D l i).length = P at h3
    unfold ptB at h3 ⊢
    rw [tmAt_of hq, evsAt_of hq] at *
    have hev : ∀ (P : Nat) (zs : List Int), xs.drop P = evsB D q.evs ++ zs → evsU sig D xs P 0 = (q.evs.map (·.e), P + (evsB D q.evs).length, 0) := fun P zs hz =>
      evsU_there hD hsl (hB.pts q hm).few (fun e he1 => ⟨he q hm e he1, fun a ha => (((hB.pts q hm).evs e he1).args a ha), fun a ha => ht q hm e he1 a ha⟩) hz
    by_cases h0 : i = 0
    · subst h0
      rw [if_neg (by omega), List.nil_append] at h3 ⊢
      unfold ptU whenU
      rw [if_pos rfl]
      simp only [Nat.zero_sub]
      rw [tmAt_of hq, hev _ _ h3]
    · rw [if_pos (by omega), List.append_assoc] at h3
      rw [if_pos (by omega)]
      obtain ⟨q0, hq0⟩ : ∃ q0, l[i - 1]? = some q0 := ⟨_, List.getElem?_eq_getElem (by omega)⟩
      have hfit0 := (hB.pts q0 (List.mem_of_getElem? hq0)).fits
      unfold Pm.Fits at hfit0
      have hord := hB.ord (i - 1) q0 q hq0 (by rw [show i - 1 + 1 = i by omega]; exact hq)
      have hst : stepN l i = (q.tm - q0.tm).toNat := by unfold stepN; rw [tmAt_of hq, tmAt_of hq0]
      have hsi : ((stepN l i : Nat) : Int) = q.tm - q0.tm := by rw [hst]; omega
      have hn := nx_there (m := m64) h3 (stepN_lt hB.pts i) (by rw [hsi]; unfold m64; omega)
      unfold ptU whenU
      rw [if_neg h0]
      unfold laterU
      simp only
      rw [hn, hsi, tmAt_of hq0, if_neg (by unfold m64; omega), show q0.tm + (q.tm - q0.tm) = q.tm by omega, Int.emod_eq_of_lt hfit.1 hfit.2, hev _ _ (drop_past h3), List.length_append, Nat.add_assoc]) l.length (by rw [List.length_map]; exact Nat.le_refl _)
  have h3 : (l.map (·.p)).take l.length = l.map (·.p) := by rw [List.take_of_length_le]; rw [List.length_map]; exact Nat.le_refl _
  simp only [h3, ptsB_zero, List.length_nil, Nat.add_zero, Nat.zero_sub] at h2
  exact h2
theorem catT_ge : ∀ D : List (List Int), Tx200 D → D.length ≤ (catT D).length
  | [], _ => by simp [catT]
  | t :: D, h => by
    have h1 := catT_ge D (fun s hs => h s (List.mem_cons_of_mem _ hs))
    have h2 := encT_pos (s := t) (by have := (h t (List.mem_cons_self ..)).1; omega)
    simp only [catT, List.flatMap_cons, List.length_append, List.length_cons] at h1 ⊢
    omega
/-- What points that are of a signature have for events. -/
theorem checkT_events {sig : List Pr} {l : List Pm} (h : (checkT sig (l.map (·.p))).1 = 0) : ∀ q ∈ l, ∀ e ∈ q.evs, eventT sig e.e = 0 := by
  intro q hq e he
  obtain ⟨hs, hw⟩ := checkT_zero.1 h
  obtain ⟨i, hi⟩ := List.mem_iff_getElem?.1 hq
  have hil := (List.getElem?_eq_some_iff.1 hi).1
  have := hw i (by rw [List.length_map]; exact hil)
  unfold whyT at this
  rw [getD_of (at_pn hi)] at this
  split at this
  · cases this
  · unfold whyE at this
    split at this
    · cases this
    · obtain ⟨k, hk⟩ := List.mem_iff_getElem?.1 he
      have hkl := (List.getElem?_eq_some_iff.1 hk).1
      have h2 := firstWhy_zero _ _ this k (Nat.zero_le _) (by rw [List.length_map]; omega)
      rw [getD_of (at_ev hk)] at h2
      exact h2
theorem readU_there {sig : List Pr} {l : List Pm} (hB : BOk l) (h0 : 0 < l.length) (hsl : sig.length ≤ 64) (he : ∀ q ∈ l, ∀ e ∈ q.evs, eventT sig e.e = 0) (hlen : (payB l).length ≤ 4096) :
    readU sig (payB l) = (l.map (·.p), tmAt l (l.length - 1), (payB l).length, 0) := by
  obtain ⟨d1, d2⟩ := hB.dict
  have hge := catT_ge _ d2
  have hD : (addT [] l).length ≤ 4096 := by
    have : (catT (addT [] l)).length ≤ (payB l).length := by simp only [payB, headB, dictB, List.length_append]; omega
    omega
  have hfew := hB.few
  obtain ⟨t0, ht0, ht1⟩ : ∃ t0 : Nat, tmAt l 0 = (t0 : Int) ∧ t0 < 18446744073709551616 := by
    obtain ⟨q, hq⟩ : ∃ q, l[0]? = some q := ⟨_, List.getElem?_eq_getElem h0⟩
    have := (hB.pts q (List.mem_of_getElem? hq)).fits
    unfold Pm.Fits at this
    exact ⟨(tmAt l 0).toNat, by rw [tmAt_of hq]; omega, by rw [tmAt_of hq]; omega⟩
  obtain ⟨xs, hxs⟩ : ∃ xs, payB l = xs := ⟨_, rfl⟩
  obtain ⟨D, hDD⟩ : ∃ D, addT [] l = D := ⟨_, rfl⟩
  have e0 : xs.drop 0 = encI t0 ++ (encI l.length ++ (encI D.length ++ (catT D ++ (ptsB D l l.length ++ [])))) := by
    rw [List.drop_zero, ← hxs]
    simp only [payB, headB, dictB, ht0, Int.toNat_natCast, hDD, List.append_assoc, List.append_nil]
  have e1 := drop_past e0
  have e2 := drop_past e1
  have e3 := drop_past e2
  have e4 := drop_past e3
  rw [hDD] at hD d2
  have n0 := nx_there (m := m64) e0 (by omega) (by unfold m64; omega)
  have n1 := nx_there (m := 1024) e1 (by omega) (by omega)
  have n2 := nx_there (m := 4096) e2 (by omega) (by omega)
  have b0 : baseU xs = ((t0 : Int), 0 + (encI t0).length, 0) := n0
  have b1 : cntU xs = ((l.length : Int), 0 + (encI t0).length + (encI l.length).length, 0) := by
    unfold cntU countU
    rw [b0]
    simp only
    rw [n1, if_neg (by simp only; omega)]
  have b2 : dicU xs = (D, 0 + (encI t0).length + (encI l.length).length + (encI D.length).length + (catT D).length, 0) := by
    unfold dicU dictU
    rw [b1]
    simp only
    rw [n2]
    simp only [Int.toNat_natCast]
    exact stepsU_row (enc := encT) e3 fun j a q zs hj hq => tx_there hq (d2 a (List.mem_of_getElem? hj)).1
  rw [hxs]
  unfold readU
  rw [b0, b1, b2]
  simp only [Int.toNat_natCast]
  have h5 := ptsU_there (sig := sig) hD hsl hB he (fun q hq e he a ha => by rw [← hDD]; exact addT_has l [] q hq e he a ha) e4
  rw [ht0] at h5
  rw [h5]
  have hl : xs.length = (encI t0).length + ((encI l.length).length + ((encI D.length).length + ((catT D).length + (ptsB D l l.length).length))) := by
    have := congrArg List.length e0
    simpa using this
  rw [hl]
  simp only [Nat.zero_add, Nat.add_assoc]
theorem putB_sig {sig : List Pr} {l : List Pm} (h : (putB sig l).2 = 0) : checkP sig = 0 ∧ 0 < l.length ∧ sig.length ≤ 64 ∧ (∀ q ∈ l, ∀ e ∈ q.evs, eventT sig e.e = 0) ∧ (payB l).length ≤ 4096 ∧ putB sig l = (payB l, 0) := by
  obtain ⟨h1, h2, h3⟩ := putB_ok h
  obtain ⟨k1, k2, k3⟩ := checkB_zero h1
  have hs := (checkT_zero.1 k2).1
  exact ⟨hs, k1, (check_small hs).1, checkT_events k2, h2, h3⟩
/-- The payload of points is read as these. -/
theorem getU_there {sig : List Pr} {l : List Pm} (hB : BOk l) (h : (putB sig l).2 = 0) : getU sig (payB l) = (l.map (·.p), 0) := by
  obtain ⟨hs, h0, hsl, he, hlen, hput⟩ := putB_sig h
  have hr := readU_there hB h0 hsl he hlen
  have hend : endU sig (payB l) (readU sig (payB l)) = 0 := by
    rw [hr]
    unfold endU wayU
    simp only
    rw [if_neg (by simp), if_neg (by omega), if_neg (by omega), if_pos (by rw [putB_plain]; exact hput)]
  unfold getU
  rw [if_neg (by rw [hs]; simp), if_neg (by rw [hend]; simp), hr]
/-- With a byte more it isn't. -/
theorem getU_more {sig : List Pr} {l : List Pm} (hB : BOk l) (h : (putB sig l).2 = 0) (hss : ∀ q ∈ sig, ∀ t ∈ q.args, -9223372036854775808 ≤ t ∧ t ≤ 9223372036854775807) (x : Int) : getU sig (payB l ++ [x]) = ([], 4) := by
  obtain ⟨hs, h0, hsl, he, hlen, hput⟩ := putB_sig h
  have hr := readU_there hB h0 hsl he hlen
  have hm := readU_more (zs := [x]) (payB_bytes hB) hss (by rw [hr])
  have hend : endU sig (payB l ++ [x]) (readU sig (payB l ++ [x])) = 4 := by
    rw [hm, hr]
    unfold endU
    simp only
    rw [if_neg (by simp), if_pos (by simp)]
  unfold getU
  rw [if_neg (by rw [hs]; simp), hend, if_pos (by decide)]
theorem getU_none {sig : List Pr} {xs : List Int} (h : (getU sig xs).2 ≠ 0) : (getU sig xs).1 = [] := by
  unfold getU at h ⊢
  split
  · rfl
  · rename_i h1
    rw [if_neg h1] at h
    split
    · rfl
    · rename_i h2
      rw [if_neg h2] at h
      exact absurd rfl h
/-- What is read has the payload, and was read to its end. -/
theorem getU_back {sig : List Pr} {xs : List Int} (hb : ∀ x ∈ xs, 0 ≤ x ∧ x < 256) (hss : ∀ q ∈ sig, ∀ t ∈ q.args, -9223372036854775808 ≤ t ∧ t ≤ 9223372036854775807) (h : (getU sig xs).2 = 0) :
    checkP sig = 0 ∧ putB sig ((getU sig xs).1.map bareP) = (xs, 0) ∧ (readU sig xs).2.2.2 = 0 ∧ (readU sig xs).2.2.1 = xs.length := by
  unfold getU at h ⊢
  split at h
  · rename_i h1
    exact absurd h h1
  · rename_i h1
    split at h
    · rename_i h2
      exact absurd h h2
    · rename_i h2
      rw [if_neg h1, if_neg h2]
      have h2 : endU sig xs (readU sig xs) = 0 := by simpa using h2
      have hle := readU_le hb hss
      unfold endU at h2
      split at h2
      · rename_i h3
        exact absurd h2 h3
      · rename_i h3
        split at h2
        · cases h2
        · rename_i h4
          unfold wayU at h2
          split at h2
          · cases h2
          · split at h2
            · rename_i h6
              exact ⟨by simpa using h1, h6, by simpa using h3, by omega⟩
            · cases h2
/-- Cut off anywhere it isn't. -/
theorem getU_cut {sig : List Pr} {l : List Pm} (hB : BOk l) (h : (putB sig l).2 = 0) (hss : ∀ q ∈ sig, ∀ t ∈ q.args, -9223372036854775808 ≤ t ∧ t ≤ 9223372036854775807) {c : Nat} (hc : c < (payB l).length) : (getU sig ((payB l).take c)).2 ≠ 0 := by
  intro q
  obtain ⟨hs, h0, hsl, he, hlen, hput⟩ := putB_sig h
  have hr := readU_there hB h0 hsl he hlen
  have hbt : ∀ x ∈ (payB l).take c, 0 ≤ x ∧ x < 256 := fun x hx => payB_bytes hB x (List.mem_of_mem_take hx)
  obtain ⟨_, _, k3, k4⟩ := getU_back hbt hss q
  have hm := readU_more (zs := (payB l).drop c) hbt hss k3
  rw [List.take_append_drop, hr] at hm
  rw [← hm] at k4
  rw [List.length_take] at k4
  simp only at k4
  omega
/-- Another payload is read as other points. -/
theorem getU_turned {sig : List Pr} {l : List Pm} {ys : List Int} (h : (putB sig l).2 = 0) (hb : ∀ x ∈ ys, 0 ≤ x ∧ x < 256) (hss : ∀ q ∈ sig, ∀ t ∈ q.args, -9223372036854775808 ≤ t ∧ t ≤ 9223372036854775807) (hne : ys ≠ payB l) (h2 : (getU sig ys).2 = 0) : (getU sig ys).1 ≠ l.map (·.p) := by
  intro q
  obtain ⟨_, k2, _, _⟩ := getU_back hb hss h2
  rw [q, putB_plain, (putB_ok h).2.2] at k2
  injection k2 with k2
  exact hne k2.symm
#print axioms getU_there
#print axioms getU_cut
#print axioms getU_more
#print axioms getU_turned
end Go.Proofs.Ytlmpicfhbpnpbaa
