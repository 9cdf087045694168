/-
  What the theorem of TopAny rests on, part 6 of 16.
-/
import Derived.Deep.SlicePairs
import Derived.SizedLaws
import Derived.Deep.RegionHeld3
import Derived.Test.YtnlfcmbpocdpjaaGreatTopAnyZ5
set_option maxRecDepth 100000
set_option maxHeartbeats 16000000
namespace Go.Proofs.YtnlfcmbpocdpjaaGreat
open Lib (hid)
set_option linter.unusedVariables false
def stepsU {α σ : Type} (f : Nat → σ → α × σ) (s : σ) : Nat → List α × σ
 | 0 => ([], s)
 | j + 1 => ((stepsU f s j).1 ++ [(f j (stepsU f s j).2).1], (f j (stepsU f s j).2).2)
section
variable {α σ : Type} {f g : Nat → σ → α × σ} {s : σ}
theorem stepsU_length : ∀ n, (stepsU f s n).1.length = n
 | 0 => rfl
 | n + 1 => by rw [stepsU, List.length_append, stepsU_length n]; rfl
theorem stepsU_inv {I : σ → Prop} (h0 : I s) (h : ∀ j s, I s → I (f j s).2) : ∀ n, I (stepsU f s n).2
 | 0 => h0
 | n + 1 => h n _ (stepsU_inv h0 h n)
theorem stepsU_all {I : σ → Prop} {P : α → Prop} (h0 : I s) (h : ∀ j s, I s → I (f j s).2 ∧ P (f j s).1) : ∀ n, ∀ a ∈ (stepsU f s n).1, P a
 | 0, a, ha => by simp [stepsU] at ha
 | n + 1, a, ha => by
  rw [stepsU] at ha
  rcases List.mem_append.1 ha with ha | ha
  ·exact stepsU_all h0 h n a ha
  ·rw [List.mem_singleton.1 ha]
   exact (h n _ (stepsU_inv h0 (fun j s hs => (h j s hs).1) n)).2
theorem stepsU_stop {er : σ → Int} (h : ∀ j s, er s ≠ 0 → er (f j s).2 = er s) {k : Nat} (he : er (stepsU f s k).2 ≠ 0) : ∀ n, k ≤ n → er (stepsU f s n).2 = er (stepsU f s k).2
 | 0, hk => by rw [Nat.le_zero.1 hk]
 | n + 1, hk => by
  by_cases hkn : k = n + 1
  ·rw [hkn]
  ·have ih := stepsU_stop h he n (by omega)
   rw [stepsU]
   exact (h n _ (by rw [ih]; exact he)).trans ih
theorem stepsU_there {S : Nat → σ} {l : List α} (h : ∀ j a, l[j]? = some a → f j (S j) = (a, S (j + 1))) : ∀ n, n ≤ l.length → stepsU f (S 0) n = (l.take n, S n)
 | 0, _ => by simp [stepsU]
 | n + 1, hn => by
  have hl : l[n]? = some (l[n]'(by omega)) := List.getElem?_eq_getElem (by omega)
  rw [stepsU, stepsU_there h n (by omega), h n _ hl, take_one hl]
end
abbrev m64 : Int := 18446744073709551615
def stU (e q : Int) : Int := if e = 0 then q else e
theorem stU_kept {e : Int} (h : e ≠ 0) (q : Int) : stU e q = e := if_neg h
def nx (m : Int) (xs : List Int) (p : Nat) (e : Int) : Int × Nat × Int := tk 0 p e (getN m (xs.drop p))
def sx (xs : List Int) (p : Nat) (e : Int) : Int × Nat × Int := tk 0 p e (getS (xs.drop p))
def tx (xs : List Int) (p : Nat) (e : Int) : List Int × Nat × Int := tk [] p e (getT 200 (xs.drop p))
def txtU (D : List (List Int)) (xs : List Int) (p : Nat) (e : Int) : List Int × Nat × Int :=
 if (D.length : Int) ≤ (nx m64 xs p e).1 then ([], (nx m64 xs p e).2.1, stU (nx m64 xs p e).2.2 10) else (D.getD (nx m64 xs p e).1.toNat [], (nx m64 xs p e).2)
def argU (D : List (List Int)) (t : Int) (xs : List Int) (p : Nat) (e : Int) : Ag × Nat × Int :=
 if t = 1 then (⟨t, (sx xs p e).1, []⟩, (sx xs p e).2) else (⟨t, 0, (txtU D xs p e).1⟩, (txtU D xs p e).2)
def argsU (D : List (List Int)) (ts xs : List Int) (s : Nat × Int) (n : Nat) : List Ag × Nat × Int := stepsU (fun j s => argU D (ts.getD j 0) xs s.1 s.2) s n
def evU (sig : List Pr) (D : List (List Int)) (xs : List Int) (p : Nat) (e : Int) : Ev × Nat × Int :=
 if (sig.length : Int) ≤ (nx m64 xs p e).1 then (⟨0, []⟩, (nx m64 xs p e).2.1, stU (nx m64 xs p e).2.2 9)
 else (⟨(nx m64 xs p e).1, (argsU D (sig.getD (nx m64 xs p e).1.toNat default).args xs (nx m64 xs p e).2 (sig.getD (nx m64 xs p e).1.toNat default).args.length).1⟩,
  (argsU D (sig.getD (nx m64 xs p e).1.toNat default).args xs (nx m64 xs p e).2 (sig.getD (nx m64 xs p e).1.toNat default).args.length).2)
def evnU (sig : List Pr) (D : List (List Int)) (xs : List Int) (s : Nat × Int) (n : Nat) : List Ev × Nat × Int := stepsU (fun _ s => evU sig D xs s.1 s.2) s n
def evsU (sig : List Pr) (D : List (List Int)) (xs : List Int) (p : Nat) (e : Int) : List Ev × Nat × Int := evnU sig D xs (nx 1024 xs p e).2 (nx 1024 xs p e).1.toNat
def laterU (xs : List Int) (tm : Int) (p : Nat) (e : Int) : Int × Nat × Int :=
 ((tm + (nx m64 xs p e).1) % 18446744073709551616, (nx m64 xs p e).2.1, if m64 - tm < (nx m64 xs p e).1 then stU (nx m64 xs p e).2.2 8 else (nx m64 xs p e).2.2)
def whenU (xs : List Int) (i : Nat) (s : Int × Nat × Int) : Int × Nat × Int := if i = 0 then s else laterU xs s.1 s.2.1 s.2.2
def ptU (sig : List Pr) (D : List (List Int)) (xs : List Int) (i : Nat) (s : Int × Nat × Int) : Pn × Int × Nat × Int :=
 (⟨(whenU xs i s).1, (evsU sig D xs (whenU xs i s).2.1 (whenU xs i s).2.2).1⟩, (whenU xs i s).1, (evsU sig D xs (whenU xs i s).2.1 (whenU xs i s).2.2).2)
def ptsU (sig : List Pr) (D : List (List Int)) (xs : List Int) (s : Int × Nat × Int) (n : Nat) : List Pn × Int × Nat × Int := stepsU (ptU sig D xs) s n
def countU (xs : List Int) (p : Nat) (e : Int) : Int × Nat × Int := ((nx 1024 xs p e).1, (nx 1024 xs p e).2.1, if (nx 1024 xs p e).1 = 0 then stU (nx 1024 xs p e).2.2 4 else (nx 1024 xs p e).2.2)
def txsU (xs : List Int) (s : Nat × Int) (n : Nat) : List (List Int) × Nat × Int := stepsU (fun _ s => tx xs s.1 s.2) s n
def dictU (xs : List Int) (p : Nat) (e : Int) : List (List Int) × Nat × Int := txsU xs (nx 4096 xs p e).2 (nx 4096 xs p e).1.toNat
def baseU (xs : List Int) : Int × Nat × Int := nx m64 xs 0 0
def cntU (xs : List Int) : Int × Nat × Int := countU xs (baseU xs).2.1 (baseU xs).2.2
def dicU (xs : List Int) : List (List Int) × Nat × Int := dictU xs (cntU xs).2.1 (cntU xs).2.2
def readU (sig : List Pr) (xs : List Int) : List Pn × Int × Nat × Int := ptsU sig (dicU xs).1 xs ((baseU xs).1, (dicU xs).2) (cntU xs).1.toNat
def bareE (e : Ev) : Em := ⟨e.p, e.args, none, 0⟩
def bareP (p : Pn) : Pm := ⟨p.tm, p.evs.map bareE, none, 0⟩
def bare (d : Pm) : Pm := bareP d.p
theorem bareP_p (p : Pn) : (bareP p).p = p := by
 obtain ⟨t, l⟩ := p
 simp only [bareP, Pm.p, List.map_map]
 congr 1
 rw [show ((fun x : Em => x.e) ∘ bareE) = id from rfl, List.map_id]
theorem map_bare_p (l : List Pn) : (l.map bareP).map (·.p) = l := by
 rw [List.map_map, show ((fun x : Pm => x.p) ∘ bareP) = id from funext bareP_p, List.map_id]
theorem addE_bare : ∀ (l : List Em) (L : List (List Int)), addE L (l.map fun e => bareE e.e) = addE L l
 | [], _ => rfl
 | e :: l, L => addE_bare l (addA L e.args)
theorem addT_bare : ∀ (l : List Pm) (L : List (List Int)), addT L (l.map bare) = addT L l
 | [], _ => rfl
 | p :: l, L => by
  show addT (addE L (bare p).evs) (l.map bare) = addT (addE L p.evs) l
  rw [show (bare p).evs = p.evs.map fun e => bareE e.e by simp [bare, bareP, List.map_map], addE_bare]
  exact addT_bare l _
theorem evsB_bare (D : List (List Int)) (p : Pm) : evsB D (bare p).evs = evsB D p.evs := by
 rw [show (bare p).evs = p.evs.map fun e => bareE e.e by simp [bare, bareP, List.map_map]]
 unfold evsB evlB
 rw [List.length_map, List.flatMap_map]
 rfl
theorem bare_at (l : List Pm) (i : Nat) : (l.map bare)[i]? = (l[i]?).map bare := List.getElem?_map
theorem tmAt_bare (l : List Pm) (i : Nat) : tmAt (l.map bare) i = tmAt l i := by
 unfold tmAt
 rw [bare_at]
 cases l[i]? <;> rfl
theorem ptB_bare (D : List (List Int)) (l : List Pm) (i : Nat) : ptB D (l.map bare) i = ptB D l i := by
 unfold ptB stepN
 rw [tmAt_bare, tmAt_bare]
 congr 1
 unfold evsAt
 rw [bare_at]
 cases l[i]? with
 | none => rfl
 | some p => exact evsB_bare D p
theorem payB_bare (l : List Pm) : payB (l.map bare) = payB l := by
 unfold payB headB ptsB
 rw [tmAt_bare, addT_bare, List.length_map]
 congr 2
 exact flatMap_same fun i _ => ptB_bare _ _ _
theorem bare_p (d : Pm) : (bare d).p = d.p := bareP_p _
theorem putB_bare (sig : List Pr) (l : List Pm) : putB sig (l.map bare) = putB sig l := by
 have h : checkB sig (l.map bare) = checkB sig l := by
  unfold checkB
  rw [List.length_map, List.map_map, show ((fun x : Pm => x.p) ∘ bare) = (·.p) from funext bare_p]
 unfold putB
 rw [h, payB_bare]
theorem putB_plain (sig : List Pr) (l : List Pm) : putB sig ((l.map (·.p)).map bareP) = putB sig l := by
 rw [List.map_map]
 exact putB_bare sig l
def wayU (sig : List Pr) (xs : List Int) (l : List Pn) : Int := if 4096 < xs.length then 6 else if putB sig (l.map bareP) = (xs, 0) then 0 else 4
def endU (sig : List Pr) (xs : List Int) (r : List Pn × Int × Nat × Int) : Int := if r.2.2.2 ≠ 0 then r.2.2.2 else if r.2.2.1 < xs.length then 4 else wayU sig xs r.1
def getU (sig : List Pr) (xs : List Int) : List Pn × Int :=
 if checkP sig ≠ 0 then ([], checkP sig) else if endU sig xs (readU sig xs) ≠ 0 then ([], endU sig xs (readU sig xs)) else ((readU sig xs).1, 0)
section
variable {xs : List Int} {p : Nat} {e m : Int} {D : List (List Int)} {sig : List Pr}
theorem nx_stop (h : e ≠ 0) : nx m xs p e = (0, p, e) := tk_stopped h
theorem sx_stop (h : e ≠ 0) : sx xs p e = (0, p, e) := tk_stopped h
theorem txtU_stop (h : e ≠ 0) : (txtU D xs p e).2 = (p, e) := by
 unfold txtU
 rw [nx_stop h]
 split
 ·rw [stU_kept h]
 ·rfl
theorem argU_stop {t : Int} (h : e ≠ 0) : (argU D t xs p e).2 = (p, e) := by
 unfold argU
 split
 ·rw [sx_stop h]
 ·exact txtU_stop h
theorem argsU_stop {ts : List Int} (h : e ≠ 0) (n : Nat) : (argsU D ts xs (p, e) n).2.2 = e :=
 stepsU_stop (f := fun j s => argU D (ts.getD j 0) xs s.1 s.2) (s := (p, e)) (er := fun s : Nat × Int => s.2) (k := 0) (fun j s hs => by rw [argU_stop hs]) h n (Nat.zero_le n)
theorem evU_stop (h : e ≠ 0) : (evU sig D xs p e).2.2 = e := by
 unfold evU
 rw [nx_stop h]
 split
 ·exact stU_kept h 9
 ·exact argsU_stop h _
theorem evnU_stop (h : e ≠ 0) (n : Nat) : (evnU sig D xs (p, e) n).2.2 = e :=
 stepsU_stop (f := fun _ s => evU sig D xs s.1 s.2) (s := (p, e)) (er := fun s : Nat × Int => s.2) (k := 0) (fun j s hs => evU_stop hs) h n (Nat.zero_le n)
theorem evsU_stop (h : e ≠ 0) : (evsU sig D xs p e).2.2 = e := by
 unfold evsU
 rw [nx_stop h]
 exact evnU_stop h _
theorem laterU_stop {tm : Int} (h : e ≠ 0) : (laterU xs tm p e).2.2 = e := by
 unfold laterU
 rw [nx_stop h]
 dsimp only
 split
 ·exact stU_kept h 8
 ·rfl
theorem ptU_stop {i : Nat} {s : Int × Nat × Int} (h : s.2.2 ≠ 0) : (ptU sig D xs i s).2.2.2 = s.2.2 := by
 unfold ptU whenU
 dsimp only
 split
 ·exact evsU_stop h
 ·have h2 := laterU_stop (xs := xs) (tm := s.1) (p := s.2.1) h
  rw [evsU_stop (by rw [h2]; exact h), h2]
end
section
variable {xs : List Int} {p : Nat} {e m : Int} {D : List (List Int)} {sig : List Pr} (hb : ∀ x ∈ xs, 0 ≤ x ∧ x < 256)
include hb
theorem nx_range (hm : 0 ≤ m) (hp : p ≤ xs.length) : (∃ n : Nat, (nx m xs p e).1 = (n : Int) ∧ (n : Int) ≤ m ∧ n < 18446744073709551616) ∧ p ≤ (nx m xs p e).2.1 ∧ (nx m xs p e).2.1 ≤ xs.length := by
 obtain ⟨h1, h2, _⟩ := tk_never (z := (0 : Int)) (e := e) (r := getN m (xs.drop p)) hp (fun h => by have := (getN_fits m (xs.drop p) (drop_bytes hb p)).1 h; rw [List.length_drop] at this; exact this)
 refine ⟨?_, h1, h2⟩
 unfold nx tk
 split
 ·exact ⟨0, rfl, hm, by omega⟩
 ·split
  ·exact ⟨0, rfl, hm, by omega⟩
  ·rename_i _ h
   have h0 : (getN m (xs.drop p)).2.2 = 0 := by simpa using h
   have hr := getI_range (xs.drop p) (drop_bytes hb p)
   unfold getN at h0 ⊢
   split
   ·rename_i q
    rw [if_pos q] at h0
    cases h0
   ·rename_i q
    rw [if_neg q] at h0
    have : ¬ m < (getI (xs.drop p)).1 := fun h => q ⟨h0, h⟩
    exact ⟨(getI (xs.drop p)).1.toNat, by simp only; omega, by omega, by omega⟩
theorem nx_le (hm : 0 ≤ m) (hp : p ≤ xs.length) : (nx m xs p e).2.1 ≤ xs.length := (nx_range hb hm hp).2.2
theorem sx_range (hp : p ≤ xs.length) : (-9223372036854775808 ≤ (sx xs p e).1 ∧ (sx xs p e).1 ≤ 9223372036854775807) ∧ (sx xs p e).2.1 ≤ xs.length := by
 obtain ⟨_, h2, _⟩ := tk_never (z := (0 : Int)) (e := e) (r := getS (xs.drop p)) hp (fun h => by have := (getS_fits (xs.drop p) (drop_bytes hb p)).1 h; rw [List.length_drop] at this; exact this)
 refine ⟨?_, h2⟩
 unfold sx tk
 split
 ·simp
 ·split
  ·simp
  ·obtain ⟨h3, h4⟩ := getI_range (xs.drop p) (drop_bytes hb p)
   exact unfoldI_range h3 h4
theorem tx_range (hp : p ≤ xs.length) : ((tx xs p e).1.length ≤ 200 ∧ ∀ x ∈ (tx xs p e).1, 0 ≤ x ∧ x < 256) ∧ (tx xs p e).2.1 ≤ xs.length := by
 refine ⟨⟨?_, (tkT_bytes hb 200).2⟩, (tkT_le hb 200 hp).2⟩
 unfold tx tk
 split
 ·simp
 ·split
  ·simp
  ·rename_i _ h
   have h0 : (getT 200 (xs.drop p)).2.2 = 0 := by simpa using h
   unfold getT at h0 ⊢
   split
   ·simp
   ·split
    ·simp
    ·split
     ·simp
     ·simp only [List.length_take, List.length_drop]
      omega
theorem txtU_range (hD : Tx200 D) (hp : p ≤ xs.length) : ((txtU D xs p e).1.length ≤ 200 ∧ ∀ x ∈ (txtU D xs p e).1, 0 ≤ x ∧ x < 256) ∧ (txtU D xs p e).2.1 ≤ xs.length := by
 obtain ⟨⟨n, h1, _, _⟩, _, h2⟩ := nx_range (e := e) hb (m := m64) (by decide) hp
 unfold txtU
 rw [h1]
 split
 ·exact ⟨by simp, h2⟩
 ·rename_i h
  refine ⟨?_, h2⟩
  rw [Int.toNat_natCast]
  have hlt : n < D.length := by omega
  rw [List.getD, List.getElem?_eq_getElem hlt, Option.getD_some]
  exact hD _ (List.getElem_mem hlt)
theorem argU_range {t : Int} (ht : -9223372036854775808 ≤ t ∧ t ≤ 9223372036854775807) (hD : Tx200 D) (hp : p ≤ xs.length) : (argU D t xs p e).1.Fits ∧ (argU D t xs p e).2.1 ≤ xs.length := by
 unfold argU
 split
 ·obtain ⟨h1, h2⟩ := sx_range (e := e) hb hp
  exact ⟨⟨by simp, by simp, ht, h1⟩, h2⟩
 ·obtain ⟨⟨h1, h2⟩, h3⟩ := txtU_range (e := e) hb hD hp
  exact ⟨⟨by simp only [Go.maxLen]; omega, h2, ht, by simp⟩, h3⟩
theorem argsU_range {ts : List Int} (ht : ∀ t ∈ ts, -9223372036854775808 ≤ t ∧ t ≤ 9223372036854775807) (hD : Tx200 D) (hp : p ≤ xs.length) (n : Nat) : (∀ a ∈ (argsU D ts xs (p, e) n).1, a.Fits) ∧ (argsU D ts xs (p, e) n).2.1 ≤ xs.length := by
 have key : ∀ (j : Nat) (s : Nat × Int), s.1 ≤ xs.length → (argU D (ts.getD j 0) xs s.1 s.2).2.1 ≤ xs.length ∧ (argU D (ts.getD j 0) xs s.1 s.2).1.Fits := fun j s hs => by
  have htj : -9223372036854775808 ≤ ts.getD j 0 ∧ ts.getD j 0 ≤ 9223372036854775807 := by
   by_cases hj : j < ts.length
   ·rw [List.getD, List.getElem?_eq_getElem hj]; exact ht _ (List.getElem_mem hj)
   ·rw [List.getD, List.getElem?_eq_none (by omega)]; simp
  exact (argU_range hb htj hD hs).symm
 exact ⟨stepsU_all (I := fun s : Nat × Int => s.1 ≤ xs.length) hp key n, stepsU_inv (I := fun s : Nat × Int => s.1 ≤ xs.length) hp (fun j s hs => (key j s hs).1) n⟩
theorem evU_range (hs : ∀ q ∈ sig, ∀ t ∈ q.args, -9223372036854775808 ≤ t ∧ t ≤ 9223372036854775807) (hD : Tx200 D) (hp : p ≤ xs.length) : (∀ a ∈ (evU sig D xs p e).1.args, a.Fits) ∧ (evU sig D xs p e).2.1 ≤ xs.length := by
 obtain ⟨⟨n, h1, _, _⟩, _, h2⟩ := nx_range (e := e) hb (m := m64) (by decide) hp
 unfold evU
 rw [h1]
 split
 ·exact ⟨by simp, h2⟩
 ·rename_i h
  rw [Int.toNat_natCast]
  have hlt : n < sig.length := by omega
  refine argsU_range hb (fun t ht => ?_) hD h2 _
  rw [List.getD, List.getElem?_eq_getElem hlt, Option.getD_some] at ht
  exact hs _ (List.getElem_mem hlt) t ht
theorem evnU_le (hs : ∀ q ∈ sig, ∀ t ∈ q.args, -9223372036854775808 ≤ t ∧ t ≤ 9223372036854775807) (hD : Tx200 D) (hp : p ≤ xs.length) (n : Nat) : (evnU sig D xs (p, e) n).2.1 ≤ xs.length :=
 stepsU_inv (I := fun s : Nat × Int => s.1 ≤ xs.length) hp (fun j s h => (evU_range hb hs hD h).2) n
theorem evsU_le (hs : ∀ q ∈ sig, ∀ t ∈ q.args, -9223372036854775808 ≤ t ∧ t ≤ 9223372036854775807) (hD : Tx200 D) (hp : p ≤ xs.length) : (evsU sig D xs p e).2.1 ≤ xs.length := evnU_le hb hs hD (nx_le hb (by decide) hp) _
theorem laterU_range {tm : Int} (hp : p ≤ xs.length) : (0 ≤ (laterU xs tm p e).1 ∧ (laterU xs tm p e).1 < 18446744073709551616) ∧ (laterU xs tm p e).2.1 ≤ xs.length :=
 ⟨⟨Int.emod_nonneg _ (by decide), Int.emod_lt_of_pos _ (by decide)⟩, nx_le hb (by decide) hp⟩
theorem whenU_range {i : Nat} {s : Int × Nat × Int} (hp : s.2.1 ≤ xs.length) (ht : 0 ≤ s.1 ∧ s.1 < 18446744073709551616) : (0 ≤ (whenU xs i s).1 ∧ (whenU xs i s).1 < 18446744073709551616) ∧ (whenU xs i s).2.1 ≤ xs.length := by
 unfold whenU
 split
 ·exact ⟨ht, hp⟩
 ·exact laterU_range hb hp
theorem ptU_range {i : Nat} {s : Int × Nat × Int} (hs : ∀ q ∈ sig, ∀ t ∈ q.args, -9223372036854775808 ≤ t ∧ t ≤ 9223372036854775807) (hD : Tx200 D) (hp : s.2.1 ≤ xs.length) (ht : 0 ≤ s.1 ∧ s.1 < 18446744073709551616) :
  (ptU sig D xs i s).2.2.1 ≤ xs.length ∧ 0 ≤ (ptU sig D xs i s).2.1 ∧ (ptU sig D xs i s).2.1 < 18446744073709551616 := by
 obtain ⟨h1, h2⟩ := whenU_range (i := i) hb hp ht
 exact ⟨evsU_le hb hs hD h2, h1⟩
theorem ptsU_range {s : Int × Nat × Int} (hs : ∀ q ∈ sig, ∀ t ∈ q.args, -9223372036854775808 ≤ t ∧ t ≤ 9223372036854775807) (hD : Tx200 D) (hp : s.2.1 ≤ xs.length) (ht : 0 ≤ s.1 ∧ s.1 < 18446744073709551616) (n : Nat) :
  (ptsU sig D xs s n).2.2.1 ≤ xs.length ∧ 0 ≤ (ptsU sig D xs s n).2.1 ∧ (ptsU sig D xs s n).2.1 < 18446744073709551616 :=
 stepsU_inv (I := fun s : Int × Nat × Int => s.2.1 ≤ xs.length ∧ 0 ≤ s.1 ∧ s.1 < 18446744073709551616) ⟨hp, ht⟩ (fun j s h => ptU_range hb hs hD h.1 h.2) n
theorem txsU_range (hp : p ≤ xs.length) (n : Nat) : Tx200 (txsU xs (p, e) n).1 ∧ (txsU xs (p, e) n).2.1 ≤ xs.length :=
 ⟨stepsU_all (I := fun s : Nat × Int => s.1 ≤ xs.length) hp (fun j s h => ⟨(tx_range hb h).2, (tx_range hb h).1⟩) n, stepsU_inv (I := fun s : Nat × Int => s.1 ≤ xs.length) hp (fun j s h => (tx_range hb h).2) n⟩
theorem dictU_range (hp : p ≤ xs.length) : Tx200 (dictU xs p e).1 ∧ (dictU xs p e).2.1 ≤ xs.length := txsU_range hb (nx_le hb (by decide) hp) _
theorem countU_range (hp : p ≤ xs.length) : (∃ n : Nat, (countU xs p e).1 = (n : Int) ∧ n ≤ 1024) ∧ (countU xs p e).2.1 ≤ xs.length := by
 obtain ⟨⟨n, h1, h2, _⟩, _, h3⟩ := nx_range (e := e) hb (m := 1024) (by decide) hp
 exact ⟨⟨n, h1, by omega⟩, h3⟩
theorem cntU_range : (∃ n : Nat, (cntU xs).1 = (n : Int) ∧ n ≤ 1024) ∧ (cntU xs).2.1 ≤ xs.length := countU_range hb (nx_le hb (by decide) (Nat.zero_le _))
theorem dicU_range : Tx200 (dicU xs).1 ∧ (dicU xs).2.1 ≤ xs.length := dictU_range hb (cntU_range hb).2
theorem readU_le (hs : ∀ q ∈ sig, ∀ t ∈ q.args, -9223372036854775808 ≤ t ∧ t ≤ 9223372036854775807) : (readU sig xs).2.2.1 ≤ xs.length := by
 obtain ⟨⟨n, h1, _, h4⟩, _, h3⟩ := nx_range (e := 0) hb (m := m64) (by decide) (Nat.zero_le xs.length)
 have h1 : (baseU xs).1 = (n : Int) := h1
 obtain ⟨d1, d2⟩ := dicU_range hb
 exact (ptsU_range (s := ((baseU xs).1, (dicU xs).2)) hb hs d1 d2 (by rw [h1]; omega) _).1
end
theorem drop_past {xs a ys : List Int} {p : Nat} (h : xs.drop p = a ++ ys) : xs.drop (p + a.length) = ys := by rw [← List.drop_drop, h, List.drop_left]
section
variable {xs ys : List Int} {p : Nat}
theorem nx_there {n : Nat} {m : Int} (h : xs.drop p = encI n ++ ys) (hn : n < 18446744073709551616) (hm : (n : Int) ≤ m) : nx m xs p 0 = ((n : Int), p + (encI n).length, 0) := by
 unfold nx
 have e : getN m (xs.drop p) = ((n : Int), (encI n).length, 0) := by
  unfold getN
  rw [h, getI_enc hn, if_neg (fun q => by have := q.2; simp only at this; omega)]
 rw [e, tk_ok rfl]
theorem sx_there {x : Int} (h : xs.drop p = encI (foldI x).toNat ++ ys) (h1 : -9223372036854775808 ≤ x) (h2 : x ≤ 9223372036854775807) : sx xs p 0 = (x, p + (encI (foldI x).toNat).length, 0) := by
 obtain ⟨f1, f2⟩ := foldI_range h1 h2
 unfold sx
 have e : getS (xs.drop p) = (x, (encI (foldI x).toNat).length, 0) := by
  unfold getS
  rw [h, getI_enc (by omega)]
  simp only [Int.toNat_of_nonneg f1, unfold_fold]
 rw [e, tk_ok rfl]
theorem tx_there {t : List Int} (h : xs.drop p = encT t ++ ys) (ht : t.length ≤ 200) : tx xs p 0 = (t, p + (encT t).length, 0) := by
 unfold tx
 rw [h, getT_enc (by omega) (by omega), tk_ok rfl]
end
theorem flatMap_at {α : Type} {f : α → List Int} {l : List α} {j : Nat} {a : α} (h : l[j]? = some a) : l.flatMap f = (l.take j).flatMap f ++ (f a ++ (l.drop (j + 1)).flatMap f) := by
 obtain ⟨hj, ha⟩ := List.getElem?_eq_some_iff.1 h
 have e : l = l.take j ++ (a :: l.drop (j + 1)) := by
  rw [← ha, ← List.drop_eq_getElem_cons hj, List.take_append_drop]
 conv => lhs; rw [e]
 rw [List.flatMap_append, List.flatMap_cons]
theorem stepsU_row {α : Type} {f : Nat → Nat × Int → α × Nat × Int} {xs ys : List Int} {p : Nat} {enc : α → List Int} {l : List α} (hx : xs.drop p = l.flatMap enc ++ ys)
  (h : ∀ j a q zs, l[j]? = some a → xs.drop q = enc a ++ zs → f j (q, 0) = (a, q + (enc a).length, 0)) : stepsU f (p, 0) l.length = (l, p + (l.flatMap enc).length, 0) := by
 have h2 := stepsU_there (f := f) (S := fun j => (p + ((l.take j).flatMap enc).length, (0 : Int))) (l := l) (fun j a ha => by
  have e := flatMap_at (f := enc) ha
  rw [e, List.append_assoc, List.append_assoc] at hx
  rw [h j a _ _ ha (drop_past hx)]
  simp only [take_one ha, List.flatMap_append, List.flatMap_cons, List.flatMap_nil, List.append_nil, List.length_append, Nat.add_assoc]) l.length (Nat.le_refl _)
 simp only [List.take_zero, List.flatMap_nil, List.length_nil, Nat.add_zero, List.take_length] at h2
 exact h2
section
variable {xs ys : List Int} {p : Nat} {D : List (List Int)}
theorem argU_there {t : Int} {a : Ag} (hD : D.length ≤ 4096) (ha : AOk a) (hw : whyG t a = 0) (ht : a.t = 2 → a.s ∈ D) (h : xs.drop p = encI (argN D a) ++ ys) : argU D t xs p 0 = (a, p + (encI (argN D a)).length, 0) := by
 have hlt := argN_lt (D := D) ha (by omega)
 obtain ⟨_, _, _, n1, n2⟩ := ha.fits
 obtain ⟨at', an, as'⟩ := a
 unfold whyG at hw
 simp only at hw ht n1 n2
 split at hw
 ·cases hw
 ·rename_i e1
  have e1 : at' = t := by simpa using e1
  subst e1
  split at hw
  ·cases hw
  ·rename_i e2
   split at hw
   ·cases hw
   ·rename_i e3
    rcases ha.kind with hk | hk
    ·simp only at hk
     subst hk
     have es : as' = [] := Classical.byContradiction fun q => e2 ⟨rfl, q⟩
     subst es
     have hv : argN D ⟨1, an, []⟩ = (foldI an).toNat := rfl
     rw [hv] at h ⊢
     unfold argU
     rw [if_pos rfl, sx_there h n1 n2]
    ·simp only at hk
     subst hk
     have en : an = 0 := Classical.byContradiction fun q => e3 ⟨rfl, q⟩
     subst en
     have hin := ht rfl
     have hv : argN D ⟨2, 0, as'⟩ = (placeD D as').toNat := rfl
     rcases placeD_ways D as' with ⟨_, q⟩ | ⟨j, j0, j1, j2, _⟩
     ·exact absurd hin q
     ·rw [hv, j1, Int.toNat_natCast] at h ⊢
      unfold argU
      rw [if_neg (by decide)]
      unfold txtU
      rw [nx_there h (by omega) (by unfold m64; omega), if_neg (by simp only; omega)]
      simp only [Int.toNat_natCast]
      rw [List.getD, j2, Option.getD_some]
theorem argsU_there {ts : List Int} {l : List Ag} (hD : D.length ≤ 4096) (ha : ∀ a ∈ l, AOk a) (hw : ∀ i a, l[i]? = some a → whyG (ts.getD i 0) a = 0) (ht : ∀ a ∈ l, a.t = 2 → a.s ∈ D) (h : xs.drop p = argsB D l ++ ys) :
  argsU D ts xs (p, 0) l.length = (l, p + (argsB D l).length, 0) :=
 stepsU_row (enc := fun a => encI (argN D a)) h fun j a q zs hj hq => argU_there hD (ha a (List.mem_of_getElem? hj)) (hw j a hj) (ht a (List.mem_of_getElem? hj)) hq
theorem evU_there {sig : List Pr} {e : Ev} (hD : D.length ≤ 4096) (hsl : sig.length ≤ 64) (he : eventT sig e = 0) (ha : ∀ a ∈ e.args, AOk a) (ht : ∀ a ∈ e.args, a.t = 2 → a.s ∈ D) (h : xs.drop p = evB D (bareE e) ++ ys) :
  evU sig D xs p 0 = (e, p + (evB D (bareE e)).length, 0) := by
 by_cases hp : e.p < 0 ∨ (sig.length : Int) ≤ e.p
 ·rw [eventT_name hp] at he
  cases he
 ·obtain ⟨k, hk⟩ : ∃ k : Nat, e.p = (k : Int) := ⟨e.p.toNat, by omega⟩
  obtain ⟨q, hq⟩ : ∃ q, sig[k]? = some q := ⟨_, List.getElem?_eq_getElem (show k < sig.length by omega)⟩
  rw [eventT_has hk hq] at he
  split at he
  ·cases he
  ·rename_i hl
   have hl : e.args.length = q.args.length := by simpa using hl
   have hwh := firstWhy_zero _ _ he
   have hB : evB D (bareE e) = encI k ++ argsB D e.args := by
    show encI e.p.toNat ++ argsB D e.args = _
    rw [hk, Int.toNat_natCast]
   rw [hB, List.append_assoc] at h
   have hn := nx_there (m := m64) h (by omega) (by unfold m64; omega)
   have hg := argsU_there (ts := q.args) hD ha (fun i a hi => by
    have := hwh i (Nat.zero_le _) (by have := (List.getElem?_eq_some_iff.1 hi).1; omega)
    rwa [getD_of hi] at this) ht (drop_past h)
   unfold evU
   rw [hn, if_neg (by simp only; omega)]
   simp only [Int.toNat_natCast]
   rw [show sig.getD k default = q by simp [List.getD, hq], ← hl, hg, hB]
   obtain ⟨ep, ea⟩ := e
   simp only at hk
   subst hk
   simp only [List.length_append, Nat.add_assoc]
theorem evsU_there {sig : List Pr} {l : List Em} (hD : D.length ≤ 4096) (hsl : sig.length ≤ 64) (hl : l.length ≤ 1024) (he : ∀ e ∈ l, eventT sig e.e = 0 ∧ (∀ a ∈ e.args, AOk a) ∧ ∀ a ∈ e.args, a.t = 2 → a.s ∈ D) (h : xs.drop p = evsB D l ++ ys) :
  evsU sig D xs p 0 = (l.map (·.e), p + (evsB D l).length, 0) := by
 unfold evsB at h
 rw [List.append_assoc] at h
 have hn := nx_there (m := 1024) h (by omega) (by omega)
 have hB : evlB D l = (l.map (·.e)).flatMap (fun e => evB D (bareE e)) := by rw [List.flatMap_map]; rfl
 have h2 := drop_past h
 rw [hB] at h2
 have hg := stepsU_row (f := fun _ s => evU sig D xs s.1 s.2) (enc := fun e => evB D (bareE e)) h2 fun j a q zs hj hq => by
  obtain ⟨e, he1, rfl⟩ := List.mem_map.1 (List.mem_of_getElem? hj)
  obtain ⟨k1, k2, k3⟩ := he e he1
  exact evU_there hD hsl k1 k2 k3 hq
 unfold evsU evnU
 rw [hn]
 simp only [Int.toNat_natCast]
 rw [List.length_map] at hg
 rw [hg, ← hB, evsB, List.length_append, Nat.add_assoc]
end
theorem drop_range (n i : Nat) (h : i < n) : (List.range n)[i]? = some i := by simp [h]
theorem ptsU_there {sig : List Pr} {l : List Pm} {D : List (List Int)} {xs ys : List Int} {p : Nat} (hD : D.length ≤ 4096) (hsl : sig.length ≤ 64) (hB : BOk l) (he : ∀ q ∈ l, ∀ e ∈ q.evs, eventT sig e.e = 0) (ht : ∀ q ∈ l, ∀ e ∈ q.evs, ∀ a ∈ e.args, a.t = 2 → a.s ∈ D)
  (h : xs.drop p = ptsB D l l.length ++ ys) : ptsU sig D xs (tmAt l 0, p, 0) l.length = (l.map (·.p), tmAt l (l.length - 1), p + (ptsB D l l.length).length, 0) := by
 have h2 := stepsU_there (f := ptU sig D xs) (S := fun i => (tmAt l (i - 1), p + (ptsB D l i).length, (0 : Int))) (l := l.map (·.p)) (fun i a ha => by
  rw [List.getElem?_map] at ha
  obtain ⟨q, hq, rfl⟩ : ∃ q, l[i]? = some q ∧ q.p = a := by
   cases hi : l[i]? with
   | none => rw [hi] at ha; cases ha
   | some q => rw [hi] at ha; exact ⟨q, rfl, by simpa using ha⟩
  have hi := (List.getElem?_eq_some_iff.1 hq).1
  have hm := List.mem_of_getElem? hq
  have e := flatMap_at (f := ptB D l) (drop_range l.length i hi)
  have hfit := (hB.pts q hm).fits
  unfold Pm.Fits at hfit
  rw [List.take_range, Nat.min_eq_left (Nat.le_of_lt hi)] at e
  unfold ptsB at h
  rw [e, List.append_assoc, List.append_assoc] at h
  have h3 := drop_past h
  generalize (List.drop (i + 1) (List.range l.length)).flatMap (ptB D l) ++ ys = zs at h3
  change xs.drop (p + (ptsB D l i).length) = ptB D l i ++ zs at h3
  have hsuc : (ptsB D l (i + 1)).length = (ptsB D l i).length + (ptB D l i).length := by rw [ptsB_succ, List.length_append]
  simp only [Nat.add_sub_cancel]
  rw [hsuc, ← Nat.add_assoc]
  generalize p + (ptsB D l i).length = P at h3
  unfold ptB at h3 ⊢
  rw [tmAt_of hq, evsAt_of hq] at *
  have hev : ∀ (P : Nat) (zs : List Int), xs.drop P = evsB D q.evs ++ zs → evsU sig D xs P 0 = (q.evs.map (·.e), P + (evsB D q.evs).length, 0) := fun P zs hz =>
   evsU_there hD hsl (hB.pts q hm).few (fun e he1 => ⟨he q hm e he1, fun a ha => (((hB.pts q hm).evs e he1).args a ha), fun a ha => ht q hm e he1 a ha⟩) hz
  by_cases h0 : i = 0
  ·subst h0
   rw [if_neg (by omega), List.nil_append] at h3 ⊢
   unfold ptU whenU
   rw [if_pos rfl]
   simp only [Nat.zero_sub]
   rw [tmAt_of hq, hev _ _ h3]
  ·rw [if_pos (by omega), List.append_assoc] at h3
   rw [if_pos (by omega)]
   obtain ⟨q0, hq0⟩ : ∃ q0, l[i - 1]? = some q0 := ⟨_, List.getElem?_eq_getElem (by omega)⟩
   have hfit0 := (hB.pts q0 (List.mem_of_getElem? hq0)).fits
   unfold Pm.Fits at hfit0
   have hord := hB.ord (i - 1) q0 q hq0 (by rw [show i - 1 + 1 = i by omega]; exact hq)
   have hst : stepN l i = (q.tm - q0.tm).toNat := by unfold stepN; rw [tmAt_of hq, tmAt_of hq0]
   have hsi : ((stepN l i : Nat) : Int) = q.tm - q0.tm := by rw [hst]; omega
   have hn := nx_there (m := m64) h3 (stepN_lt hB.pts i) (by rw [hsi]; unfold m64; omega)
   unfold ptU whenU
   rw [if_neg h0]
   unfold laterU
   simp only
   rw [hn, hsi, tmAt_of hq0, if_neg (by unfold m64; omega), show q0.tm + (q.tm - q0.tm) = q.tm by omega, Int.emod_eq_of_lt hfit.1 hfit.2, hev _ _ (drop_past h3), List.length_append, Nat.add_assoc]) l.length (by rw [List.length_map]; exact Nat.le_refl _)
 have h3 : (l.map (·.p)).take l.length = l.map (·.p) := by rw [List.take_of_length_le]; rw [List.length_map]; exact Nat.le_refl _
 simp only [h3, ptsB_zero, List.length_nil, Nat.add_zero, Nat.zero_sub] at h2
 exact h2
theorem catT_ge : ∀ D : List (List Int), Tx200 D → D.length ≤ (catT D).length
 | [], _ => by simp [catT]
 | t :: D, h => by
  have h1 := catT_ge D (fun s hs => h s (List.mem_cons_of_mem _ hs))
  have h2 := encT_pos (s := t) (by have := (h t (List.mem_cons_self ..)).1; omega)
  simp only [catT, List.flatMap_cons, List.length_append, List.length_cons] at h1 ⊢
  omega
theorem checkT_events {sig : List Pr} {l : List Pm} (h : (checkT sig (l.map (·.p))).1 = 0) : ∀ q ∈ l, ∀ e ∈ q.evs, eventT sig e.e = 0 := by
 intro q hq e he
 obtain ⟨hs, hw⟩ := checkT_zero.1 h
 obtain ⟨i, hi⟩ := List.mem_iff_getElem?.1 hq
 have hil := (List.getElem?_eq_some_iff.1 hi).1
 have := hw i (by rw [List.length_map]; exact hil)
 unfold whyT at this
 rw [getD_of (at_pn hi)] at this
 split at this
 ·cases this
 ·unfold whyE at this
  split at this
  ·cases this
  ·obtain ⟨k, hk⟩ := List.mem_iff_getElem?.1 he
   have hkl := (List.getElem?_eq_some_iff.1 hk).1
   have h2 := firstWhy_zero _ _ this k (Nat.zero_le _) (by rw [List.length_map]; omega)
   rw [getD_of (at_ev hk)] at h2
   exact h2
theorem readU_there {sig : List Pr} {l : List Pm} (hB : BOk l) (h0 : 0 < l.length) (hsl : sig.length ≤ 64) (he : ∀ q ∈ l, ∀ e ∈ q.evs, eventT sig e.e = 0) (hlen : (payB l).length ≤ 4096) :
  readU sig (payB l) = (l.map (·.p), tmAt l (l.length - 1), (payB l).length, 0) := by
 obtain ⟨d1, d2⟩ := hB.dict
 have hge := catT_ge _ d2
 have hD : (addT [] l).length ≤ 4096 := by
  have : (catT (addT [] l)).length ≤ (payB l).length := by simp only [payB, headB, dictB, List.length_append]; omega
  omega
 have hfew := hB.few
 obtain ⟨t0, ht0, ht1⟩ : ∃ t0 : Nat, tmAt l 0 = (t0 : Int) ∧ t0 < 18446744073709551616 := by
  obtain ⟨q, hq⟩ : ∃ q, l[0]? = some q := ⟨_, List.getElem?_eq_getElem h0⟩
  have := (hB.pts q (List.mem_of_getElem? hq)).fits
  unfold Pm.Fits at this
  exact ⟨(tmAt l 0).toNat, by rw [tmAt_of hq]; omega, by rw [tmAt_of hq]; omega⟩
 obtain ⟨xs, hxs⟩ : ∃ xs, payB l = xs := ⟨_, rfl⟩
 obtain ⟨D, hDD⟩ : ∃ D, addT [] l = D := ⟨_, rfl⟩
 have e0 : xs.drop 0 = encI t0 ++ (encI l.length ++ (encI D.length ++ (catT D ++ (ptsB D l l.length ++ [])))) := by
  rw [List.drop_zero, ← hxs]
  simp only [payB, headB, dictB, ht0, Int.toNat_natCast, hDD, List.append_assoc, List.append_nil]
 have e1 := drop_past e0
 have e2 := drop_past e1
 have e3 := drop_past e2
 have e4 := drop_past e3
 rw [hDD] at hD d2
 have n0 := nx_there (m := m64) e0 (by omega) (by unfold m64; omega)
 have n1 := nx_there (m := 1024) e1 (by omega) (by omega)
 have n2 := nx_there (m := 4096) e2 (by omega) (by omega)
 have b0 : baseU xs = ((t0 : Int), 0 + (encI t0).length, 0) := n0
 have b1 : cntU xs = ((l.length : Int), 0 + (encI t0).length + (encI l.length).length, 0) := by
  unfold cntU countU
  rw [b0]
  simp only
  rw [n1, if_neg (by simp only; omega)]
 have b2 : dicU xs = (D, 0 + (encI t0).length + (encI l.length).length + (encI D.length).length + (catT D).length, 0) := by
  unfold dicU dictU
  rw [b1]
  simp only
  rw [n2]
  simp only [Int.toNat_natCast]
  exact stepsU_row (enc := encT) e3 fun j a q zs hj hq => tx_there hq (d2 a (List.mem_of_getElem? hj)).1
 rw [hxs]
 unfold readU
 rw [b0, b1, b2]
 simp only [Int.toNat_natCast]
 have h5 := ptsU_there (sig := sig) hD hsl hB he (fun q hq e he a ha => by rw [← hDD]; exact addT_has l [] q hq e he a ha) e4
 rw [ht0] at h5
 rw [h5]
 have hl : xs.length = (encI t0).length + ((encI l.length).length + ((encI D.length).length + ((catT D).length + (ptsB D l l.length).length))) := by
  have := congrArg List.length e0
  simpa using this
 rw [hl]
 simp only [Nat.zero_add, Nat.add_assoc]
theorem putB_sig {sig : List Pr} {l : List Pm} (h : (putB sig l).2 = 0) : checkP sig = 0 ∧ 0 < l.length ∧ sig.length ≤ 64 ∧ (∀ q ∈ l, ∀ e ∈ q.evs, eventT sig e.e = 0) ∧ (payB l).length ≤ 4096 ∧ putB sig l = (payB l, 0) := by
 obtain ⟨h1, h2, h3⟩ := putB_ok h
 obtain ⟨k1, k2, k3⟩ := checkB_zero h1
 have hs := (checkT_zero.1 k2).1
 exact ⟨hs, k1, (check_small hs).1, checkT_events k2, h2, h3⟩
theorem getU_there {sig : List Pr} {l : List Pm} (hB : BOk l) (h : (putB sig l).2 = 0) : getU sig (payB l) = (l.map (·.p), 0) := by
 obtain ⟨hs, h0, hsl, he, hlen, hput⟩ := putB_sig h
 have hr := readU_there hB h0 hsl he hlen
 have hend : endU sig (payB l) (readU sig (payB l)) = 0 := by
  rw [hr]
  unfold endU wayU
  simp only
  rw [if_neg (by simp), if_neg (by omega), if_neg (by omega), if_pos (by rw [putB_plain]; exact hput)]
 unfold getU
 rw [if_neg (by rw [hs]; simp), if_neg (by rw [hend]; simp), hr]
theorem getU_back {sig : List Pr} {xs : List Int} (hb : ∀ x ∈ xs, 0 ≤ x ∧ x < 256) (hss : ∀ q ∈ sig, ∀ t ∈ q.args, -9223372036854775808 ≤ t ∧ t ≤ 9223372036854775807) (h : (getU sig xs).2 = 0) :
  checkP sig = 0 ∧ putB sig ((getU sig xs).1.map bareP) = (xs, 0) ∧ (readU sig xs).2.2.2 = 0 ∧ (readU sig xs).2.2.1 = xs.length := by
 unfold getU at h ⊢
 split at h
 ·rename_i h1
  exact absurd h h1
 ·rename_i h1
  split at h
  ·rename_i h2
   exact absurd h h2
  ·rename_i h2
   rw [if_neg h1, if_neg h2]
   have h2 : endU sig xs (readU sig xs) = 0 := by simpa using h2
   have hle := readU_le hb hss
   unfold endU at h2
   split at h2
   ·rename_i h3
    exact absurd h2 h3
   ·rename_i h3
    split at h2
    ·cases h2
    ·rename_i h4
     unfold wayU at h2
     split at h2
     ·cases h2
     ·split at h2
      ·rename_i h6
       exact ⟨by simpa using h1, h6, by simpa using h3, by omega⟩
      ·cases h2
def fitB (sig : List Pr) (l : List Pm) : Bool := decide ((putB sig l).2 = 0)
theorem fitB_yes {sig : List Pr} {l : List Pm} : fitB sig l = true ↔ (putB sig l).2 = 0 := by simp [fitB]
theorem putB_of {sig : List Pr} {l : List Pm} (hc : checkB sig l = 0) : putB sig l = if 4096 < (payB l).length then ([], 6) else (payB l, 0) := by unfold putB; rw [if_pos hc]
theorem fitB_of {sig : List Pr} {l : List Pm} (hc : checkB sig l = 0) : fitB sig l = decide ((payB l).length ≤ 4096) := by
 unfold fitB
 rw [putB_of hc]
 by_cases h : 4096 < (payB l).length
 ·rw [if_pos h]; simp; omega
 ·rw [if_neg h]; simp; omega
structure SOk (sig : List Pr) (l : List Pm) : Prop where
 chk : (checkT sig (l.map (·.p))).1 = 0
 fits : ∀ p ∈ l, p.Fits ∧ ∀ e ∈ p.evs, ∀ a ∈ e.args, a.Fits
section
variable {sig : List Pr} {l : List Pm}
theorem SOk.drop (h : SOk sig l) (k : Nat) : SOk sig (l.drop k) := ⟨by rw [List.map_drop, checkT_drop h.chk], fun p hp => h.fits p (List.mem_of_mem_drop hp)⟩
theorem SOk.take (h : SOk sig l) (k : Nat) : SOk sig (l.take k) := ⟨by rw [List.map_take, checkT_take h.chk], fun p hp => h.fits p (List.mem_of_mem_take hp)⟩
theorem SOk.check (h : SOk sig l) (h1 : 0 < l.length) (h2 : l.length ≤ 1024) : checkB sig l = 0 := by
 unfold checkB
 rw [if_neg (by omega), if_neg (by rw [h.chk]; simp), if_neg (by omega)]
theorem SOk.bok (h : SOk sig l) (h2 : l.length ≤ 1024) : BOk l := bok_of h.chk h2 h.fits
theorem SOk.takes (h : SOk sig l) {n : Nat} (h1 : 1 ≤ n) (h2 : n ≤ 1024) (hl : n ≤ l.length) : checkB sig (l.take n) = 0 := (h.take n).check (by rw [List.length_take]; omega) (by rw [List.length_take]; omega)
theorem SOk.longer (h : SOk sig l) {n : Nat} (h2 : n ≤ 1024) (hl : n ≤ l.length) : ∀ d m, 1 ≤ m → m + d = n → (payB (l.take m)).length ≤ (payB (l.take n)).length
 | 0, m, _, e => by rw [show m = n by omega]; exact Nat.le_refl _
 | d + 1, m, h1, e => by
  refine Nat.le_trans ?_ (SOk.longer h h2 hl d (m + 1) (by omega) (by omega))
  have hb : BOk (l.take (m + 1)) := (h.take (m + 1)).bok (by rw [List.length_take]; omega)
  have := payB_longer hb (n := m) h1 (by rw [List.length_take]; omega)
  rw [List.take_take, List.take_take, Nat.min_eq_left (Nat.le_succ m), Nat.min_self] at this
  omega
theorem SOk.fewer (h : SOk sig l) {m n : Nat} (h1 : 1 ≤ m) (hmn : m ≤ n) (h2 : n ≤ 1024) (hl : n ≤ l.length) (hf : fitB sig (l.take n) = true) : fitB sig (l.take m) = true := by
 rw [fitB_of (h.takes (by omega) h2 hl), decide_eq_true_iff] at hf
 rw [fitB_of (h.takes h1 (by omega) (by omega)), decide_eq_true_iff]
 exact Nat.le_trans (h.longer h2 hl (n - m) m h1 (by omega)) hf
theorem SOk.over (h : SOk sig l) {n : Nat} (h1 : 1 ≤ n) (h2 : n ≤ 1024) (hl : n ≤ l.length) (hf : fitB sig (l.take n) = false) : (putB sig (l.take n)).2 = 6 := by
 have hc := h.takes h1 h2 hl
 rw [fitB_of hc, decide_eq_false_iff_not] at hf
 rw [putB_of hc, if_pos (by omega)]
end
def topP (p : Nat → Bool) : Nat → Nat
 | 0 => 0
 | m + 1 => if p (m + 1) then m + 1 else topP p m
theorem topP_le (p : Nat → Bool) : ∀ m, topP p m ≤ m
 | 0 => Nat.le_refl _
 | m + 1 => by
  unfold topP
  by_cases h : p (m + 1) = true
  ·rw [if_pos h]; exact Nat.le_refl _
  ·rw [if_neg h]; have := topP_le p m; omega
theorem topP_one {p : Nat → Bool} (h1 : p 1 = true) : ∀ m, 1 ≤ m → 1 ≤ topP p m
 | m + 1, _ => by
  unfold topP
  by_cases h : p (m + 1) = true
  ·rw [if_pos h]; omega
  ·rw [if_neg h]
   cases m with
   | zero => exact absurd h1 h
   | succ m => exact topP_one h1 _ (by omega)
theorem topP_yes {p : Nat → Bool} : ∀ m, 1 ≤ topP p m → p (topP p m) = true
 | 0, h => by simp [topP] at h
 | m + 1, h1 => by
  unfold topP at h1 ⊢
  by_cases h : p (m + 1) = true
  ·rw [if_pos h]; exact h
  ·rw [if_neg h] at h1 ⊢
   exact topP_yes m h1
theorem topP_no {p : Nat → Bool} : ∀ m j, topP p m < j → j ≤ m → p j = false
 | 0, j, h1, h2 => by omega
 | m + 1, j, h1, h2 => by
  unfold topP at h1
  by_cases h : p (m + 1) = true
  ·rw [if_pos h] at h1; omega
  ·rw [if_neg h] at h1
   by_cases e : j = m + 1
   ·rw [e]; simpa using h
   ·exact topP_no m j h1 (by omega)
def firstC (sig : List Pr) (l : List Pm) (most : Int) : Nat := topP (fun n => fitB sig (l.take n)) (min (min most.toNat 1024) l.length)
def sizesF (sig : List Pr) (most : Int) : Nat → List Pm → List Nat
 | 0, _ => []
 | f + 1, l => if l.length = 0 then [] else firstC sig l most :: sizesF sig most f (l.drop (firstC sig l most))
def sizesC (sig : List Pr) (l : List Pm) (most : Int) : List Nat := sizesF sig most l.length l
def aloneC (sig : List Pr) (l : List Pm) : Bool := l.all fun p => fitB sig [p]
def whyC (sig : List Pr) (l : List Pm) (most : Int) : Int := if most < 1 then 1 else if (checkT sig (l.map (·.p))).1 ≠ 0 then (checkT sig (l.map (·.p))).1 else if aloneC sig l = true then 0 else 6
structure COk (sig : List Pr) (l : List Pm) (most : Int) : Prop where
 ok : SOk sig l
 most : 1 ≤ most
 alone : ∀ p ∈ l, fitB sig [p] = true
section
variable {sig : List Pr} {l : List Pm} {most : Int}
theorem cok_of (h : whyC sig l most = 0) (hf : ∀ p ∈ l, p.Fits ∧ ∀ e ∈ p.evs, ∀ a ∈ e.args, a.Fits) : COk sig l most := by
 unfold whyC at h
 by_cases h1 : most < 1
 ·rw [if_pos h1] at h; omega
 ·rw [if_neg h1] at h
  by_cases h2 : (checkT sig (l.map (·.p))).1 ≠ 0
  ·rw [if_pos h2] at h; exact absurd h h2
  ·rw [if_neg h2] at h
   by_cases h3 : aloneC sig l = true
   ·exact ⟨⟨by simpa using h2, hf⟩, by omega, fun p hp => List.all_eq_true.1 h3 p hp⟩
   ·rw [if_neg h3] at h; omega
theorem COk.drop (h : COk sig l most) (k : Nat) : COk sig (l.drop k) most := ⟨h.ok.drop k, h.most, fun p hp => h.alone p (List.mem_of_mem_drop hp)⟩
theorem COk.one (h : COk sig l most) (hl : 0 < l.length) : fitB sig (l.take 1) = true := by
 cases l with
 | nil => simp at hl
 | cons p l => exact h.alone p (List.mem_cons_self ..)
theorem COk.first (h : COk sig l most) (hl : 0 < l.length) : 1 ≤ firstC sig l most ∧ firstC sig l most ≤ l.length ∧ firstC sig l most ≤ 1024 ∧ (firstC sig l most : Int) ≤ most ∧ fitB sig (l.take (firstC sig l most)) = true := by
 have hm := h.most
 have h1 := topP_one (p := fun n => fitB sig (l.take n)) (h.one hl) (min (min most.toNat 1024) l.length) (by omega)
 have h2 := topP_le (fun n => fitB sig (l.take n)) (min (min most.toNat 1024) l.length)
 exact ⟨h1, by unfold firstC; omega, by unfold firstC; omega, by unfold firstC; omega, topP_yes _ h1⟩
theorem COk.noMore (h : COk sig l most) {k : Nat} (hk : firstC sig l most = k) (h1 : k < l.length) (h2 : k < 1024) (h3 : (k : Int) < most) : (putB sig (l.take (k + 1))).2 = 6 := by
 have := topP_no (p := fun n => fitB sig (l.take n)) (min (min most.toNat 1024) l.length) (k + 1) (by unfold firstC at hk; omega) (by omega)
 exact h.ok.over (by omega) (by omega) (by omega) this
theorem sizesF_more (h : COk sig l most) : ∀ f g, l.length ≤ f → l.length ≤ g → sizesF sig most f l = sizesF sig most g l
 | f, g, hf, hg => by
  induction f generalizing g l with
  | zero =>
   cases g with
   | zero => rfl
   | succ g => rw [sizesF, sizesF, if_pos (by omega)]
  | succ f ih =>
   cases g with
   | zero => rw [sizesF, sizesF, if_pos (by omega)]
   | succ g =>
    rw [sizesF, sizesF]
    by_cases hl : l.length = 0
    ·rw [if_pos hl, if_pos hl]
    ·rw [if_neg hl, if_neg hl]
     have := (h.first (by omega)).1
     rw [ih (h.drop _) g (by rw [List.length_drop]; omega) (by rw [List.length_drop]; omega)]
theorem sizesC_nil (sig : List Pr) (most : Int) : sizesC sig [] most = [] := rfl
theorem COk.sizes (h : COk sig l most) (hl : 0 < l.length) : sizesC sig l most = firstC sig l most :: sizesC sig (l.drop (firstC sig l most)) most := by
 have h1 := (h.first hl).1
 unfold sizesC
 obtain ⟨n, hn⟩ : ∃ n, l.length = n + 1 := ⟨l.length - 1, by omega⟩
 rw [hn, sizesF, if_neg (by omega), sizesF_more (h.drop _) n (l.drop (firstC sig l most)).length (by rw [List.length_drop]; omega) (Nat.le_refl _)]
theorem COk.length (h : COk sig l most) : ∀ n, l.length = n → (sizesC sig l most).length ≤ n := by
 intro n
 induction n using Nat.strongRecOn generalizing l with
 | _ n ih =>
  intro hn
  rcases Nat.eq_zero_or_pos l.length with h0 | h0
  ·rw [List.eq_nil_of_length_eq_zero h0, sizesC_nil]; exact Nat.zero_le _
  ·have h1 := h.first h0
   rw [h.sizes h0, List.length_cons]
   have := ih (l.length - firstC sig l most) (by omega) (h.drop (firstC sig l most)) (by rw [List.length_drop])
   omega
end
inductive CutC (sig : List Pr) (most : Int) : List Pm → List Nat → Prop
 | nil : CutC sig most [] []
 | cons {l : List Pm} {ks : List Nat} {k : Nat} (h : COk sig l most) (hl : 0 < l.length) (hk : firstC sig l most = k) (t : CutC sig most (l.drop k) ks) : CutC sig most l (k :: ks)
theorem COk.cut {sig : List Pr} {most : Int} : ∀ n {l : List Pm}, COk sig l most → l.length = n → CutC sig most l (sizesC sig l most) := by
 intro n
 induction n using Nat.strongRecOn with
 | _ n ih =>
  intro l h hn
  rcases Nat.eq_zero_or_pos l.length with h0 | h0
  ·rw [List.eq_nil_of_length_eq_zero h0, sizesC_nil]; exact .nil
  ·have h1 := h.first h0
   rw [h.sizes h0]
   exact .cons h h0 rfl (ih (l.length - firstC sig l most) (by omega) (h.drop _) (by rw [List.length_drop]))
def cutsOf {α : Type} : List Nat → List α → List (List α)
 | [], _ => []
 | k :: ks, l => l.take k :: cutsOf ks (l.drop k)
theorem cutsOf_length {α : Type} : ∀ (ks : List Nat) (l : List α), (cutsOf ks l).length = ks.length
 | [], _ => rfl
 | k :: ks, l => by rw [cutsOf, List.length_cons, List.length_cons, cutsOf_length ks]
def BlkOk (sig : List Pr) (most : Int) (q : List Pm) : Prop := 1 ≤ q.length ∧ q.length ≤ 1024 ∧ (q.length : Int) ≤ most ∧ (putB sig q).2 = 0
def NoRoom (sig : List Pr) (most : Int) (q r : List Pm) : Prop := ∃ d, r[0]? = some d ∧ (q.length < 1024 → (q.length : Int) < most → (putB sig (q ++ [d])).2 = 6)
def GoodC (sig : List Pr) (most : Int) (L : List (List Pm)) : Prop := ∀ (i : Nat) (q : List Pm), L[i]? = some q → BlkOk sig most q ∧ ∀ r : List Pm, L[i + 1]? = some r → NoRoom sig most q r
theorem CutC.inv {sig : List Pr} {most : Int} {l : List Pm} {ks : List Nat} {k : Nat} (h : CutC sig most l (k :: ks)) : COk sig l most ∧ 0 < l.length ∧ firstC sig l most = k ∧ CutC sig most (l.drop k) ks := by
 cases h with
 | cons h1 h2 h3 h4 => exact ⟨h1, h2, h3, h4⟩
theorem CutC.good {sig : List Pr} {most : Int} : ∀ {l : List Pm} {ks : List Nat}, CutC sig most l ks → GoodC sig most (cutsOf ks l) := by
 intro l ks h
 induction h with
 | nil => intro i q hq; simp [cutsOf] at hq
 | @cons l ks k hc hl hk t ih =>
  have hf := hc.first hl
  rw [hk] at hf
  intro i q hq
  rw [cutsOf] at hq
  rw [cutsOf]
  cases i with
  | zero =>
   simp only [List.getElem?_cons_zero, Option.some.injEq] at hq
   subst hq
   have hlen : (l.take k).length = k := by rw [List.length_take]; omega
   refine ⟨⟨by omega, by omega, by rw [hlen]; exact hf.2.2.2.1, fitB_yes.1 hf.2.2.2.2⟩, fun r hr => ?_⟩
   rw [List.getElem?_cons_succ] at hr
   cases ks with
   | nil => simp [cutsOf] at hr
   | cons k2 ks2 =>
    obtain ⟨hc2, hl2, hk2, t2⟩ := t.inv
    simp only [cutsOf, List.getElem?_cons_zero, Option.some.injEq] at hr
    subst hr
    have hf2 := hc2.first hl2
    rw [hk2] at hf2
    rw [List.length_drop] at hl2
    obtain ⟨d, hd⟩ : ∃ d, l[k]? = some d := ⟨_, List.getElem?_eq_getElem (by omega)⟩
    refine ⟨d, ?_, fun h1 h2 => ?_⟩
    ·rw [List.getElem?_take, if_pos (by omega), List.getElem?_drop]
     exact hd
    ·rw [hlen] at h1 h2
     have := hc.noMore hk (by omega) h1 h2
     rwa [List.take_add_one, hd] at this
  | succ i =>
   rw [List.getElem?_cons_succ] at hq
   obtain ⟨g1, g2⟩ := ih i q hq
   exact ⟨g1, fun r hr => g2 r (by rwa [List.getElem?_cons_succ] at hr)⟩
theorem putB_same {sig : List Pr} {l l' : List Pm} (h : l.map (·.p) = l'.map (·.p)) : putB sig l = putB sig l' := by rw [← putB_plain sig l, h, putB_plain]
theorem map_at {α β : Type} {f : α → β} {l l' : List α} (h : l.map f = l'.map f) {i : Nat} {x : α} (hx : l'[i]? = some x) : ∃ y, l[i]? = some y ∧ f y = f x := by
 have := congrArg (fun z => z[i]?) h
 simp only [List.getElem?_map, hx, Option.map_some] at this
 cases hy : l[i]? with
 | none => rw [hy] at this; cases this
 | some y => rw [hy] at this; exact ⟨y, rfl, by simpa using this⟩
theorem GoodC.same {sig : List Pr} {most : Int} {L L' : List (List Pm)} (h : L.map (List.map (·.p)) = L'.map (List.map (·.p))) (hg : GoodC sig most L) : GoodC sig most L' := by
 intro i q' hq'
 obtain ⟨q, hq, e⟩ := map_at h hq'
 have el : q.length = q'.length := by have := congrArg List.length e; simpa using this
 obtain ⟨⟨g1, g2, g3, g4⟩, g5⟩ := hg i q hq
 refine ⟨⟨by omega, by omega, by rw [← el]; exact g3, by rw [← putB_same e]; exact g4⟩, fun r' hr' => ?_⟩
 obtain ⟨r, hr, e2⟩ := map_at h hr'
 obtain ⟨d, hd, hn⟩ := g5 r hr
 obtain ⟨d', hd', e3⟩ := map_at (f := fun x : Pm => x.p) e2.symm hd
 refine ⟨d', hd', fun h1 h2 => ?_⟩
 have := hn (by omega) (by rw [el]; exact h2)
 rw [putB_same (l' := q' ++ [d']) (by rw [List.map_append, List.map_append, e]; simp [e3])] at this
 exact this
def cutsC (sig : List Pr) (l : List Pm) (most : Int) : List (List Pm) := cutsOf (sizesC sig l most) l
def roomC (sig : List Pr) (most : Int) (b : List Pm) (q : Pm) : Prop := b.length < 1024 ∧ (b.length : Int) < most ∧ fitB sig (b ++ [q]) = true
instance (sig : List Pr) (most : Int) (b : List Pm) (q : Pm) : Decidable (roomC sig most b q) := by unfold roomC; infer_instance
section
variable {sig : List Pr} {l : List Pm} {q : Pm} {most : Int}
theorem cutsC_nil (sig : List Pr) (most : Int) : cutsC sig [] most = [] := rfl
theorem COk.cons (h : COk sig l most) (hl : 0 < l.length) : cutsC sig l most = l.take (firstC sig l most) :: cutsC sig (l.drop (firstC sig l most)) most := by unfold cutsC; rw [h.sizes hl]; rfl
theorem COk.single (h : COk sig [q] most) : cutsC sig [q] most = [[q]] := by
 have hf := h.first (by simp)
 have h1 : firstC sig [q] most = 1 := by
  have := hf.1
  have := hf.2.1
  simp at this
  omega
 rw [h.cons (by simp), h1]
 rfl
end
open Go.RowKit Go.ChangeShapes Go.WideShapes
def TrFit (l : List Pm) : Prop := l.length ≤ 4398046510976 ∧ ∀ d ∈ l, d.evs.length ≤ 4398046510976 ∧ ∀ x ∈ d.evs, x.args.length ≤ 4398046510976
section
open Go.RowKit Go.Shelf
attribute [local go_sem] Oper.semAt_some
def ClJ (N : Nat) (w : World) (A : Option Addr) (c : Nat) (es pre : List Em) (W : World) : Prop :=
 OwnE W (N + 4) (.slice A es.length c) es ∧ es.map (·.e) = pre.map (·.e) ∧ Boxed W (N + 1) 53 (.slice A es.length c) ∧ KeepsE N (N + 2) w W
def ClI (N : Nat) (w : World) (pre : List Em) (W : World) : Prop := ∃ (A : Option Addr) (c : Nat) (es : List Em), ClJ N w A c es pre W
theorem clJ_calm {N m c : Nat} {w X Y : World} {A : Option Addr} {es pre : List Em} (h : N + 2 < w.heap.size) (hm : w.heap.size ≤ m) (hj : ClJ N w A c es pre X) (hc : Calm m X Y) : ClJ N w A c es pre Y := by
 obtain ⟨h1, h2, h3, h4⟩ := hj
 exact ⟨h1.calm hc, h2, hc.boxed h3, abides_below (β := Unit) (by omega) (by omega) () X Y h4.1 hc, (hc.low (N + 2) (by omega) (by have := h4.1.size; omega)).trans h4.2⟩
theorem clI_abides {N m : Nat} {w : World} (h : N + 2 < w.heap.size) (hm : w.heap.size ≤ m) : Abides m (ClI N w) := by
 rintro pre X Y ⟨A, c, es, hj⟩ hc
 exact ⟨A, c, es, clJ_calm h hm hj hc⟩
theorem held_two {W : World} {q : Nat} {t : TypeId} {u v : Value} (h : Held W q t #[u, v]) : W.cell? ⟨q, 0, none⟩ = some u ∧ W.cell? ⟨q, 1, none⟩ = some v := ⟨by have := h.cell 0; simpa using this, by have := h.cell 1; simpa using this⟩
theorem clone_round {N c c2 c4 : Nat} {A A2 A4 : Option Addr} {w2 W1 V2 V4 : World} {pre es : List Em} {x : Em} {O : Obj} (s2 : w2.heap.size = N + 4) (hes : OwnE W1 (N + 4) (.slice A es.length c) es) (hpm : es.map (·.e) = pre.map (·.e))
  (hbx : Boxed W1 (N + 1) 53 (.slice A es.length c)) (hke : KeepsE N (N + 2) w2 W1) (hf : (∀ a ∈ x.args, a.Fits) ∧ x.Fits) (b2 : Below W1.heap.size W1 V2)
  (hO2 : V2.ownsRow (N + 4) 135 3 (.slice A2 x.args.length c2) x.args.length (flatG x.args)) (hO4 : V4.ownsRow (N + 4) 91 2 (.slice A4 (es.length + 1) c4) (es.length + 1) (flatE es ++ flatE [⟨x.p, x.args, A2, c2⟩]))
  (hg4 : (V2.alloc O).grownBy V4 (Value.slice A es.length c).ownBlock) :
  KeepsFrom w2.heap.size W1 (V4.setCell ⟨N + 1, 0, none⟩ (.slice A4 (es.length + 1) c4)) ∧ KeepsE N (N + 2) W1 (V4.setCell ⟨N + 1, 0, none⟩ (.slice A4 (es.length + 1) c4)) ∧ ClI N w2 (pre ++ [x]) (V4.setCell ⟨N + 1, 0, none⟩ (.slice A4 (es.length + 1) c4)) := by
 have z1 := hke.1.size
 have b3 : Below W1.heap.size W1 (V2.alloc O) := b2.alloc b2.size _
 have z3 := b3.size
 have h3 := hes.below b3
 have hO3 : OwnG (V2.alloc O) (N + 4) ⟨x.p, x.args, A2, c2⟩ := ⟨World.ownsRow.alloc hO2 _, hf⟩
 have ne1 : 135 ≠ 91 := by decide
 have hbl : ∀ k, k < N + 4 → V4.heap[k]? = W1.heap[k]? := fun k hk => (hg4.block k (by omega) (fun e => by have := (World.ownsRow.lt h3.1 k e.symm).1; omega)).trans (b3.block k (by omega))
 have hB4 : Boxed V4 (N + 1) 53 (.slice A es.length c) := (hbl _ (by omega)).trans hbx
 have ke : KeepsE N (N + 2) W1 (V4.setCell ⟨N + 1, 0, none⟩ (.slice A4 (es.length + 1) c4)) :=
  ((keepsE_below b3 (by omega) (by omega)).trans (keepsE_grown h3.1 hg4 (by omega) (by omega) (by omega) (by omega))).trans ⟨(Below.refl _ _).setCell (p := ⟨N + 1, 0, none⟩) (by simp) _, Below.heap_setCell _ _ _ _ (by simp)⟩
 refine ⟨((keeps_below b3).trans ((keeps_grown h3.1 hg4).trans (KeepsOthers.setCell _ _ _))).from _, ke, A4, c4, es ++ [⟨x.p, x.args, A2, c2⟩], ⟨?_, fun d hd => ?_⟩, by simp [hpm], ?_, hke.trans ke⟩
 ·rw [flatE_append, List.length_append]
  exact own_put1 hO4 (by omega)
 ·refine OwnG.put ?_ (by omega)
  rcases List.mem_append.1 hd with h | h
  ·exact (h3.2 d h).grown h3.1 ne1 hg4
  ·rw [List.mem_singleton.1 h]
   exact hO3.grown h3.1 ne1 hg4
 ·rw [List.length_append]
  exact hB4.set _
theorem cloneEvents_any (p : Pm) (w : World) (hp : p.Ok w w.heap.size) (hfit : p.evs.length ≤ 4398046510976 ∧ ∀ x ∈ p.evs, x.args.length ≤ 4398046510976) :
  Calls Tryz.prog 67 #[p.val] w fun e w' => ∃ A c es, e = .returned (.slice A es.length c) ∧ OwnE w' w.heap.size (.slice A es.length c) es ∧ es.map (·.e) = p.evs.map (·.e) ∧ Below w.heap.size w w' := by
 obtain ⟨-, hl1, hl2⟩ := hp.1.1.len
 obtain ⟨hf1, hf2⟩ := hfit
 obtain ⟨ig, hig, hg0, hg1, hg2⟩ := info_parts Tryz.infoArg
 obtain ⟨iv, hiv, hv0, hv1, hv2⟩ := info_parts Tryz.infoEvent
 obtain ⟨N, hN⟩ : ∃ N, w.heap.size = N := ⟨_, rfl⟩
 obtain ⟨w1, hw1⟩ : ∃ w1, (w.alloc (.cells #[.int .u64 p.tm, .slice p.A p.evs.length p.c] 55)).alloc (.cells #[.slice none 0 0] 53) = w1 := ⟨_, rfl⟩
 have q1 : (w.alloc (.cells #[.int .u64 p.tm, .slice p.A p.evs.length p.c] 55)).heap.size = N + 1 := by rw [World.size_alloc, hN]
 have s1 : w1.heap.size = N + 2 := by rw [← hw1, World.size_alloc, q1]
 have hbw : Below N w w1 := by rw [← hw1]; exact ((Below.refl _ _).alloc (by omega) _).alloc (by omega) _
 have hB1 : Boxed w1 (N + 1) 53 (.slice none 0 0) := by rw [← hw1, ← q1]; exact Boxed.new _ _ _
 have hH0 : Held w1 N 55 #[.int .u64 p.tm, .slice p.A p.evs.length p.c] := by rw [← hw1, ← hN]; exact (Below.heap_alloc _ _ _ (by rw [World.size_alloc]; omega)).trans (heap_alloc_new _ _)
 obtain ⟨y0, y1⟩ := cC2 hH0
 simp at y0 y1
 rw [hN] at hp ⊢
 have HOK := hid hp
 have HF2 := hid hf2
 have hb4 : Below N w (w1.alloc (.cells #[.int .u64 p.tm, .slice p.A p.evs.length p.c] 55)) := hbw.alloc (by omega) _
 clear hp hf2
 refine (callsIn_wide (n := 9)).1 ?_
 refine callsIn_of_wp_marks Tryz.func67 rfl trivial ?_ rfl
 simp only [Tryz.ntmps67, List.size_toArray, List.length_cons, List.length_nil, Nat.reduceAdd, Nat.reduceSub, Array.replicate_succ, Array.replicate_zero, List.push_toArray, List.append_toArray, List.nil_append, List.cons_append]
 gi_wp2_with (refine ⟨trivial, ?_⟩; gi_at_call 102; refine (callsIn_wide.2 (eventsOf_any _ _ _ _)).mono ?_; rintro e w' ⟨rfl, rfl⟩)
 obtain ⟨w2, hw2⟩ : ∃ w2, (w1.alloc (.cells #[.int .u64 p.tm, .slice p.A p.evs.length p.c] 55)).alloc (.cells #[.slice (some ⟨N + 2, 0, none⟩) 1 1] 25) = w2 := ⟨_, rfl⟩
 have q4 : (w1.alloc (.cells #[.int .u64 p.tm, .slice p.A p.evs.length p.c] 55)).heap.size = N + 3 := by rw [World.size_alloc, s1]
 have s2 : w2.heap.size = N + 4 := by rw [← hw2, World.size_alloc, q4]
 have hbw2 : Below N w w2 := by rw [← hw2]; exact hb4.alloc (by omega) _
 have hC1 : Boxed w2 (N + 1) 53 (.slice none 0 0) := by rw [← hw2]; exact (hB1.alloc _).alloc _
 have hC3 : Boxed w2 (N + 3) 25 (.slice (some ⟨N + 2, 0, none⟩) 1 1) := by rw [← hw2, ← q4]; exact Boxed.new _ _ _
 have hH2 : Held w2 (N + 2) 55 #[.int .u64 p.tm, .slice p.A p.evs.length p.c] := by rw [← hw2, ← s1]; exact (Below.heap_alloc _ _ _ (by rw [World.size_alloc]; omega)).trans (heap_alloc_new _ _)
 obtain ⟨x0, x1⟩ := cC2 hH2
 simp at x0 x1
 have hat : PtsAt w2 (N + 2) (some ⟨N + 2, 0, none⟩) [p] := by
  intro _
  refine ⟨0, rfl, fun i u hi => ?_⟩
  match i with
  | 0 => simp [flatN] at hi; rw [← hi]; exact x0
  | 1 => simp [flatN] at hi; rw [← hi]; exact x1
  | (k + 2) => simp [flatN] at hi
 have hevs : evsOf [p] = p.evs := by simp [evsOf]
 rw [hw2]
 clear hw1 hw2 q1 q4 s1 hB1 hH0 y0 y1 hH2 x0 x1 hbw hb4
 have HBW2 := hid hbw2
 have HEVS := hid hevs
 refine range_gives rfl (by omega) (gf := 141) (lb := #[.pointer (some ⟨N + 2 + 1, 0, none⟩)]) rfl trivial (enters_of Tryz.func141 (by kernel_rfl) rfl)
  (events_gives (9 - 1) (by omega) (N + 3) N (N + 2) (some ⟨N + 2, 0, none⟩) 1 [p] (by simp) w2 hC3 (by omega) (by omega) hat (fun d hd => by rw [List.mem_singleton.1 hd]; exact HOK.out.below hbw2)) (fun _ => rfl) (fun h k => h.trans k) (fun m W1 l1 o o' hl _ h hc => KeepsE.turn (w := w2) (by omega) (by omega) W1 l1 o o' hl h hc)
  (ClI N w2) (fun _ _ => False) (clI_abides (by omega) (by omega)) (fun _ _ _ h _ => h) ⟨none, 0, [], OwnE.nil _ _, rfl, hC1, KeepsE.refl _ _ _⟩
  (fun pre x a' W => (∃ q A c es, a' = { tmps := #[p.val, .pointer (some ⟨N, 0, none⟩), .slice none 0 0, .pointer (some ⟨N + 1, 0, none⟩), .pointer (some ⟨q, 0, none⟩), .agg #[.int .u64 p.tm, .slice p.A p.evs.length p.c], .slice (some ⟨N + 2, 0, none⟩) 1 1, .func (.func 141) #[] #[.pointer (some ⟨N + 2 + 1, 0, none⟩)], x.val, undef, undef, undef, undef, undef, undef, undef, undef, undef, undef], defers := [] } ∧ Held W q 91 #[.int .i64 x.p, .slice x.A x.args.length x.c] ∧ N + 4 ≤ q ∧ some q ≠ (Value.slice A (List.length es) c).ownBlock ∧ ClJ N w2 A c es pre W) ∧ x ∈ evsOf [p] ∧ pre ++ [x] <+: evsOf [p])
  (fun pre x a' => ?own) ?take ?body ?done ?stop
 case own =>
  rintro _ X Y ⟨⟨q, A, c, es, e, h1, h2, h3, h4⟩, h5⟩ hc
  exact ⟨⟨q, A, c, es, e, hc.held h1, h2, h3, clJ_calm (by omega) (by omega) h4 hc⟩, h5⟩
 case take =>
  rintro l2 m pre x W1 K hm hm1 hI hR hK
  obtain ⟨A, c, es, hj⟩ := hI
  have hzw : w2.heap.size ≤ W1.heap.size := hj.2.2.2.1.size
  have hcl := Calm.alloc w2.heap.size W1 (.cells #[.int .i64 x.p, .slice x.A x.args.length x.c] 91)
  have HK := hid (hK _ _ ((KeepsOthers.alloc W1 _).from _) (KeepsE.alloc (by omega) (by omega) _) ⟨⟨W1.heap.size, A, c, es, rfl, heap_alloc_new W1 _, by omega, fun e => by have := (World.ownsRow.lt hj.1.1 _ e.symm).2; omega, clJ_calm (by omega) (by omega) hj hcl⟩, hR⟩)
  clear hK hj hR hcl hC1 hC3 hat hbw2
  gi_wp2
  exact HK.out
 case body =>
  rintro l2 m pre x a' W1 hm hm1 ⟨⟨q, A, c, es, rfl, hq, hbq, hne, hes, hpm, hbx, hke⟩, hx, hpf⟩
  rw [hevs] at hx hpf
  have hb1 := HBW2.out.trans hke.1
  have hz1 := hb1.size
  have hzk := hke.1.size
  have hok := ((HOK.out.1.2 x hx).below hb1).more (by omega : N ≤ W1.heap.size)
  have hxl := HF2.out x hx
  have hlen : es.length + 1 ≤ 4398046510976 := by
   have h1 := congrArg List.length hpm
   have h2 := hpf.length_le
   simp at h1 h2
   omega
  clear hC1 hC3 hat hbw2
  have HS := hid (fun W (h : Below W1.heap.size W1 W) => held_two (hq.below h hq.lt))
  have HS2 := hid (fun W (h : Held W q 91 #[.int .i64 x.p, .slice x.A x.args.length x.c]) => held_two h)
  have HNE := hid hne
  have HNQ := hid (show q ≠ N + 1 by omega)
  have hS0 := HS.out _ (Below.refl W1.heap.size W1).drew
  gi_wp2
  refine wpIn_region_round (S := fun W => W.cell? ⟨q, 0, none⟩ = some (.int .i64 x.p) ∧ W.cell? ⟨q, 1, none⟩ = some (.slice x.A x.args.length x.c)) (by kernel_rfl) (by kernel_rfl) (by rintro ⟨a, w, h⟩; exact h) hS0 (fun _ => ?_)
  refine wpAnyH_take (i := 1) (v := .pointer (some ⟨q, 0, none⟩)) rfl (by kernel_rfl) (by kernel_rfl) (by kernel_rfl) (fun _ _ _ h => h) (Or.inl ⟨by rfl, fun W hW => by obtain ⟨u0, u1⟩ := hW; go_simp⟩) hS0 ?_
  try simp only [pU]
  refine wpAnyH_take (i := 2) (v := .int .i64 x.p) rfl (by kernel_rfl) (by kernel_rfl) (by kernel_rfl) (fun _ _ _ h => h) (Or.inl ⟨by rfl, fun W hW => by obtain ⟨u0, u1⟩ := hW; go_simp⟩) hS0 ?_
  try simp only [pU]
  refine wpAnyH_take (i := 3) (v := .pointer (some ⟨q, 1, none⟩)) rfl (by kernel_rfl) (by kernel_rfl) (by kernel_rfl) (fun _ _ _ h => h) (Or.inl ⟨by rfl, fun W hW => by obtain ⟨u0, u1⟩ := hW; go_simp⟩) hS0 ?_
  try simp only [pU]
  refine wpAnyH_take (i := 4) (v := .slice x.A x.args.length x.c) rfl (by kernel_rfl) (by kernel_rfl) (by kernel_rfl) (fun _ _ _ h => h) (Or.inl ⟨by rfl, fun W hW => by obtain ⟨u0, u1⟩ := hW; go_simp⟩) hS0 ?_
  try simp only [pU]
  refine wpAnyH_ready (rs := [0, 5]) (by kernel_rfl) (by simp) ?_
  refine AllReadyH.cons rfl (fun K hK => ?_) (AllReadyH.cons rfl (fun K hK => ?_) AllReadyH.nil)
  ·skip
   have c1' := hbx.cell
   go_simp
   clear c1'
   refine hK.out _ _ hS0 (fun _ => ?_)
   clear hK K
   try simp only [pU]
   refine wpAnyH_ready (rs := [5]) (by kernel_rfl) (by simp) ?_
   refine AllReadyH.cons rfl (fun K hK => ?_) AllReadyH.nil
   refine step_append_erow (by rfl) (.const (.slice none 0 0)) (.tmp 13) 89 135 (by rfl) (N + 4) ig _ 3 32 Tryz.underlying89 hig hg0 hg1 hg2 rfl (by omega) (.slice none 0 0) 0 [] (by rfl) (World.ownsRow_nil _ _ _ _) W1.heap.size (.slice x.A x.args.length x.c) x.args.length (flatG x.args) (by rfl) (hok.1.1.below (Below.refl _ _).drew) (flatG_length _) (oneG _) (by unfold maxLen; omega) (by omega) (by simp; omega) x.args.length (Nat.zero_add _) (flatG x.args) rfl ?_
   intro A2 c2 V2 hO2 hg2'
   have b2 : Below W1.heap.size W1 V2 := (Below.refl W1.heap.size W1).drew.grown hg2' (by simp) (by intro k e; cases e)
   refine hK.out _ _ (HS.out _ b2) (fun _ => ?_)
   clear hK K
   try simp only [pU]
   refine wpAnyH_take (i := 6) (v := .agg #[.int .i64 x.p, .slice A2 x.args.length c2]) rfl (by kernel_rfl) (by kernel_rfl) (by kernel_rfl) (fun _ _ _ h => h) (Or.inl ⟨by rfl, fun W hW => by obtain ⟨u0, u1⟩ := hW; go_simp⟩) (HS.out _ b2) ?_
   try simp only [pU]
   refine wpAnyH_ready (rs := [7]) (by kernel_rfl) (by simp) ?_
   refine AllReadyH.cons rfl (fun K hK => ?_) AllReadyH.nil
   go_simp
   refine hK.out _ _ (HS.out _ (b2.alloc b2.size _)) (fun _ => ?_)
   clear hK K
   try simp only [pU]
   refine wpAnyH_ready (rs := [8]) (by kernel_rfl) (by simp) ?_
   refine AllReadyH.cons rfl (fun K hK => ?_) AllReadyH.nil
   refine step_append_erow (by rfl) (.tmp 9) (.tmp 16) 53 91 (by rfl) (N + 4) iv _ 2 32 Tryz.underlying53 hiv hv0 hv1 hv2 rfl (by omega) (.slice A es.length c) es.length (flatE es) (by rfl) (hes.below (b2.alloc b2.size _)).1 (V2.heap.size + 1) (.slice (some ⟨V2.heap.size, 0, none⟩) 1 1) 1 (flatE [⟨x.p, x.args, A2, c2⟩]) (by rfl) (ERow.held (t := 91) (heap_alloc_new V2 _) (by omega) (by unfold maxLen; omega)) (flatE_length _) (oneE _) (by unfold maxLen; omega) (by omega) (by have := b2.size; simp; omega) (es.length + 1) rfl (flatE es ++ flatE [⟨x.p, x.args, A2, c2⟩]) rfl ?_
   intro A4 c4 V4 hO4 hg4
   have hb4 : Boxed V4 (N + 1) 53 (.slice A es.length c) := (hg4.block (N + 1) (by have := b2.size; simp; omega) (fun e => by have := (World.ownsRow.lt hes.1 (N + 1) e.symm).1; omega)).trans (((b2.alloc b2.size _).block _ (by omega)).trans hbx)
   have hq4 : Held V4 q 91 #[.int .i64 x.p, .slice x.A x.args.length x.c] := (hg4.block q (by have := b2.size; have := hq.lt; simp; omega) (HNE.out)).trans (((b2.alloc b2.size _).block _ hq.lt).trans hq)
   refine hK.out _ _ (HS2.out _ hq4) (fun _ => ?_)
   clear hK K
   try simp only [pU]
   refine wpAnyH_ready (rs := [9]) (by kernel_rfl) (by simp) ?_
   refine AllReadyH.cons rfl (fun K hK => ?_) AllReadyH.nil
   have c4' := hb4.cell
   have f4' := hb4.frozen
   go_simp
   clear c4' f4'
   refine hK.out _ _ (HS2.out _ (Held.other_put hq4 HNQ.out _)) (fun _ => ?_)
   clear hK K
   try simp only [pU]
   refine wpAnyH_done (by kernel_rfl) ?_ _
   exact clone_round s2 hes hpm hbx hke ⟨hok.1.2, hok.2⟩ b2 hO2 hO4 hg4
  ·skip
   refine step_append_erow (by rfl) (.const (.slice none 0 0)) (.tmp 13) 89 135 (by rfl) (N + 4) ig _ 3 32 Tryz.underlying89 hig hg0 hg1 hg2 rfl (by omega) (.slice none 0 0) 0 [] (by rfl) (World.ownsRow_nil _ _ _ _) W1.heap.size (.slice x.A x.args.length x.c) x.args.length (flatG x.args) (by rfl) (hok.1.1.below (Below.refl _ _).drew) (flatG_length _) (oneG _) (by unfold maxLen; omega) (by omega) (by simp; omega) x.args.length (Nat.zero_add _) (flatG x.args) rfl ?_
   intro A2 c2 V2 hO2 hg2'
   have b2 : Below W1.heap.size W1 V2 := (Below.refl W1.heap.size W1).drew.grown hg2' (by simp) (by intro k e; cases e)
   refine hK.out _ _ (HS.out _ b2) (fun _ => ?_)
   clear hK K
   try simp only [pU]
   refine wpAnyH_take (i := 6) (v := .agg #[.int .i64 x.p, .slice A2 x.args.length c2]) rfl (by kernel_rfl) (by kernel_rfl) (by kernel_rfl) (fun _ _ _ h => h) (Or.inl ⟨by rfl, fun W hW => by obtain ⟨u0, u1⟩ := hW; go_simp⟩) (HS.out _ b2) ?_
   try simp only [pU]
   refine wpAnyH_ready (rs := [0, 7]) (by kernel_rfl) (by simp) ?_
   refine AllReadyH.cons rfl (fun K hK => ?_) (AllReadyH.cons rfl (fun K hK => ?_) AllReadyH.nil)
   ·skip
    have c1' := Boxed.cell (show Boxed V2 (N + 1) 53 (.slice A es.length c) from (b2.block _ (by omega)).trans hbx)
    go_simp
    clear c1'
    refine hK.out _ _ (HS.out _ b2) (fun _ => ?_)
    clear hK K
    try simp only [pU]
    refine wpAnyH_ready (rs := [7]) (by kernel_rfl) (by simp) ?_
    refine AllReadyH.cons rfl (fun K hK => ?_) AllReadyH.nil
    go_simp
    refine hK.out _ _ (HS.out _ (b2.alloc b2.size _)) (fun _ => ?_)
    clear hK K
    try simp only [pU]
    refine wpAnyH_ready (rs := [8]) (by kernel_rfl) (by simp) ?_
    refine AllReadyH.cons rfl (fun K hK => ?_) AllReadyH.nil
    refine step_append_erow (by rfl) (.tmp 9) (.tmp 16) 53 91 (by rfl) (N + 4) iv _ 2 32 Tryz.underlying53 hiv hv0 hv1 hv2 rfl (by omega) (.slice A es.length c) es.length (flatE es) (by rfl) (hes.below (b2.alloc b2.size _)).1 (V2.heap.size + 1) (.slice (some ⟨V2.heap.size, 0, none⟩) 1 1) 1 (flatE [⟨x.p, x.args, A2, c2⟩]) (by rfl) (ERow.held (t := 91) (heap_alloc_new V2 _) (by omega) (by unfold maxLen; omega)) (flatE_length _) (oneE _) (by unfold maxLen; omega) (by omega) (by have := b2.size; simp; omega) (es.length + 1) rfl (flatE es ++ flatE [⟨x.p, x.args, A2, c2⟩]) rfl ?_
    intro A4 c4 V4 hO4 hg4
    have hb4 : Boxed V4 (N + 1) 53 (.slice A es.length c) := (hg4.block (N + 1) (by have := b2.size; simp; omega) (fun e => by have := (World.ownsRow.lt hes.1 (N + 1) e.symm).1; omega)).trans (((b2.alloc b2.size _).block _ (by omega)).trans hbx)
    have hq4 : Held V4 q 91 #[.int .i64 x.p, .slice x.A x.args.length x.c] := (hg4.block q (by have := b2.size; have := hq.lt; simp; omega) (HNE.out)).trans (((b2.alloc b2.size _).block _ hq.lt).trans hq)
    refine hK.out _ _ (HS2.out _ hq4) (fun _ => ?_)
    clear hK K
    try simp only [pU]
    refine wpAnyH_ready (rs := [9]) (by kernel_rfl) (by simp) ?_
    refine AllReadyH.cons rfl (fun K hK => ?_) AllReadyH.nil
    have c4' := hb4.cell
    have f4' := hb4.frozen
    go_simp
    clear c4' f4'
    refine hK.out _ _ (HS2.out _ (Held.other_put hq4 HNQ.out _)) (fun _ => ?_)
    clear hK K
    try simp only [pU]
    refine wpAnyH_done (by kernel_rfl) ?_ _
    exact clone_round s2 hes hpm hbx hke ⟨hok.1.2, hok.2⟩ b2 hO2 hO4 hg4
   ·skip
    go_simp
    refine hK.out _ _ (HS.out _ (b2.alloc b2.size _)) (fun _ => ?_)
    clear hK K
    try simp only [pU]
    refine wpAnyH_ready (rs := [0]) (by kernel_rfl) (by simp) ?_
    refine AllReadyH.cons rfl (fun K hK => ?_) AllReadyH.nil
    have c1' := Boxed.cell (show Boxed (V2.alloc (.cells #[.int .i64 x.p, .slice A2 x.args.length c2] 91)) (N + 1) 53 (.slice A es.length c) from ((b2.alloc b2.size _).block _ (by omega)).trans hbx)
    go_simp
    clear c1'
    refine hK.out _ _ (HS.out _ (b2.alloc b2.size _)) (fun _ => ?_)
    clear hK K
    try simp only [pU]
    refine wpAnyH_ready (rs := [8]) (by kernel_rfl) (by simp) ?_
    refine AllReadyH.cons rfl (fun K hK => ?_) AllReadyH.nil
    refine step_append_erow (by rfl) (.tmp 9) (.tmp 16) 53 91 (by rfl) (N + 4) iv _ 2 32 Tryz.underlying53 hiv hv0 hv1 hv2 rfl (by omega) (.slice A es.length c) es.length (flatE es) (by rfl) (hes.below (b2.alloc b2.size _)).1 (V2.heap.size + 1) (.slice (some ⟨V2.heap.size, 0, none⟩) 1 1) 1 (flatE [⟨x.p, x.args, A2, c2⟩]) (by rfl) (ERow.held (t := 91) (heap_alloc_new V2 _) (by omega) (by unfold maxLen; omega)) (flatE_length _) (oneE _) (by unfold maxLen; omega) (by omega) (by have := b2.size; simp; omega) (es.length + 1) rfl (flatE es ++ flatE [⟨x.p, x.args, A2, c2⟩]) rfl ?_
    intro A4 c4 V4 hO4 hg4
    have hb4 : Boxed V4 (N + 1) 53 (.slice A es.length c) := (hg4.block (N + 1) (by have := b2.size; simp; omega) (fun e => by have := (World.ownsRow.lt hes.1 (N + 1) e.symm).1; omega)).trans (((b2.alloc b2.size _).block _ (by omega)).trans hbx)
    have hq4 : Held V4 q 91 #[.int .i64 x.p, .slice x.A x.args.length x.c] := (hg4.block q (by have := b2.size; have := hq.lt; simp; omega) (HNE.out)).trans (((b2.alloc b2.size _).block _ hq.lt).trans hq)
    refine hK.out _ _ (HS2.out _ hq4) (fun _ => ?_)
    clear hK K
    try simp only [pU]
    refine wpAnyH_ready (rs := [9]) (by kernel_rfl) (by simp) ?_
    refine AllReadyH.cons rfl (fun K hK => ?_) AllReadyH.nil
    have c4' := hb4.cell
    have f4' := hb4.frozen
    go_simp
    clear c4' f4'
    refine hK.out _ _ (HS2.out _ (Held.other_put hq4 HNQ.out _)) (fun _ => ?_)
    clear hK K
    try simp only [pU]
    refine wpAnyH_done (by kernel_rfl) ?_ _
    exact clone_round s2 hes hpm hbx hke ⟨hok.1.2, hok.2⟩ b2 hO2 hO4 hg4
 case done =>
  rintro D ys V hD rfl ⟨A, c, es, hes, hpm, hbx, hke⟩ hK
  have c1 := hbx.cell
  have hbl := HBW2.out.trans hke.1
  have hDV := (Array.getElem?_eq_some_iff.1 hK).1
  rw [HEVS.out] at hpm
  have hfin : OwnE (V.putObj D (.deferred none)) N (.slice A es.length c) es := (hes.base (by omega)).calm (Calm.putObj (m := 0) _ hK rfl (by omega))
  have hbf : Below N w (V.putObj D (.deferred none)) := hbl.trans ((Below.refl N V).grown (grownBy_putObj' V D (.deferred none)) (by omega) (fun k e => by cases e; omega))
  have HFN := hid (And.intro hfin (And.intro hpm hbf))
  clear hC1 hC3 hat hbw2 hfin hbf hpm hes hbl
  gi_wp2
  refine ⟨by simp, .inl ⟨_, _, rfl, run_takeDeferred hK, ?_⟩⟩
  exact ⟨.slice A es.length c, by simp [results, Tryz.results67, go_sem], A, c, es, rfl, HFN.out⟩
 case stop =>
  rintro D pre V1 _ _ h _
  exact h.elim
end
open Go.RowKit
theorem tclone_any (A : Option Addr) (c : Nat) (ps : List Pm) (w : World) (hrow : TrRow w w.heap.size (.slice A ps.length c) ps) (hfit : TrFit ps) :
  Calls Tryz.prog 40 #[.slice A ps.length c] w fun e w' => ∃ A' c' es, e = .returned (.slice A' es.length c') ∧ OwnT w' w.heap.size (.slice A' es.length c') es ∧ es.map (·.p) = ps.map (·.p) ∧ Below w.heap.size w w' := by
 obtain ⟨i1, hi1, hy0, hy1, hy2⟩ := info_parts Tryz.infoPoint
 obtain ⟨-, hc1, hc2⟩ := hrow.1.len
 obtain ⟨hl1, hl2⟩ := hfit
 have HROW := hid hrow
 have HFT := hid hl2
 clear hrow hl2
 obtain ⟨n, hn⟩ : ∃ n, w.heap.size = n := ⟨_, rfl⟩
 rw [hn] at HROW ⊢
 have HN := hid hn
 clear hn
 go_enter Tryz.func40, Tryz.ntmps40
 go_wp2_with fail
 go_loopg [8, 3] ps.length (fun gk i v wr => ∃ (k : Nat) (A1 : Option Addr) (cc : Nat) (es : List Pm), k ≤ ps.length ∧ i = .int .i64 k ∧ v = .slice A1 es.length cc ∧ Hid (ps.length - k = gk) ∧ Hid (OwnT wr n (.slice A1 es.length cc) es) ∧ Hid (es.map (·.p) = (ps.take k).map (·.p)) ∧ Hid (Below n w wr))
 case atStart => exact ⟨0, none, 0, [], Nat.zero_le _, rfl, rfl, hid rfl, hid (OwnT.nil _ _), hid rfl, hid (Below.refl _ _)⟩
 case round =>
  obtain ⟨k, A1, cc, es, hk, rfl, rfl, HGK, HOW, HES, HBR⟩ := hrel
  by_cases hlt : k < ps.length
  ·obtain ⟨d, hd⟩ : ∃ d, ps[k]? = some d := ⟨_, List.getElem?_eq_getElem hlt⟩
   have HTK := hid (show (ps.take (k + 1)).map (·.p) = (ps.take k).map (·.p) ++ [d.p] by rw [List.take_add_one, hd, List.map_append]; rfl)
   have HEL := hid (show es.length = k by have := congrArg List.length HES.out; simp at this; omega)
   obtain ⟨b, o, rfl, hb, x0, x1, hok, ha1, ha2⟩ := (HROW.out.below HBR.out).at hd
   have hda := HFT.out d (List.mem_of_getElem? hd)
   have hnw : n ≤ wr.heap.size := by rw [← HN.out]; exact HBR.out.size
   obtain ⟨w1, hw1⟩ : ∃ w1, wr.alloc (.cells #[.int .u64 d.tm, .slice d.A d.evs.length d.c] 55) = w1 := ⟨_, rfl⟩
   have s1 : w1.heap.size = wr.heap.size + 1 := by rw [← hw1]; simp
   have b1 : Below wr.heap.size wr w1 := by rw [← hw1]; exact (Below.refl _ _).alloc (Nat.le_refl _) _
   have h1 : Held w1 wr.heap.size 55 #[.int .u64 d.tm, .slice d.A d.evs.length d.c] := by rw [← hw1]; exact heap_alloc_new wr _
   have HO1 := hid (HOW.out.below b1)
   have HB1 := hid (HBR.out.trans (b1.mono hnw))
   have HCE := hid (fun W (h : Below w1.heap.size w1 W) => cloneEvents_any d W ((hok.below ((b1.trans (h.mono (by omega))).mono hnw)).more (by have := h.size; omega)) hda)
   have HFD := hid hok.2
   have hall : ∀ W, Below w1.heap.size w1 W → W.cell? ⟨wr.heap.size, 0, none⟩ = some (.int .u64 d.tm) ∧ W.cell? ⟨wr.heap.size, 1, none⟩ = some (.slice d.A d.evs.length d.c) := fun W h => held_two (h1.below h (by omega))
   have HALL := hid hall
   have HNE := hid (show some wr.heap.size ≠ (Value.slice A1 es.length cc).ownBlock from fun e => by have := (World.ownsRow.lt HOW.out.1 _ e.symm).2; omega)
   have hfd := hok.2
   unfold Pm.Fits at hfd
   clear h1 b1 hok hd hall hda
   go_wp2_with fail
   go_region_held3 (fun W => W.cell? ⟨wr.heap.size, 0, none⟩ = some (.int .u64 d.tm) ∧ W.cell? ⟨wr.heap.size, 1, none⟩ = some (.slice d.A d.evs.length d.c))
    (first | exact HALL.out _ (Below.refl _ _) | exact HALL.out _ (Below.refl _ _).drew | exact HALL.out _ b2 | exact HALL.out _ (b2.alloc b2.size _) | exact ⟨(hg4.cell_far ⟨wr.heap.size, 0, none⟩ (by have := b2.size; simp; omega) HNE.out).trans (HALL.out _ (b2.alloc b2.size _)).1, (hg4.cell_far ⟨wr.heap.size, 1, none⟩ (by have := b2.size; simp; omega) HNE.out).trans (HALL.out _ (b2.alloc b2.size _)).2⟩)
    (first
     | (refine step_append_erow (by rfl) (.tmp 12) (.tmp 18) 25 55 (by rfl) n i1 _ 2 32 Tryz.underlying25 hi1 hy0 hy1 hy2 rfl (by omega) (.slice A1 es.length cc) es.length (flatN es) (by rfl) ((HO1.out.below b2).below ((Below.refl _ _).alloc (Nat.le_refl _) _)).1 (w2.heap.size + 1) (.slice (some ⟨w2.heap.size, 0, none⟩) 1 1) 1 (flatN [⟨d.tm, xs, A2, c2⟩]) (by rfl) (ERow.held (t := 55) (heap_alloc_new w2 _) (by omega) (by unfold maxLen; omega)) (flatN_length _) (oneN _) (by have := HEL.out; unfold maxLen; omega) (by have := HEL.out; omega) (by have := b2.size; simp; omega) (es.length + 1) rfl (flatN es ++ flatN [⟨d.tm, xs, A2, c2⟩]) rfl ?_; intro A4 c4 w4 hO4 hg4)
     | (go_at_call 67; (with_reducible refine (HCE.out _ (Below.refl _ _).drew).mono ?_); rintro e w2 ⟨A2, c2, xs, rfl, hO2, hx2, hb2⟩; have b2 : Below w1.heap.size w1 w2 := (Below.refl w1.heap.size w1).drew.trans hb2))
   have ho3 := (HO1.out.below b2).below ((Below.refl w2.heap.size w2).alloc (Nat.le_refl _) (.cells #[.int .u64 d.tm, .slice A2 xs.length c2] 55))
   have hz2 := b2.size
   have hlow : ∀ j, (Value.slice A1 es.length cc).ownBlock = some j → n ≤ j := fun j e => (World.ownsRow.lt HOW.out.1 j e).1
   have b3 := (HB1.out.trans (b2.mono (by omega))).alloc (Nat.le_trans hnw (by omega)) (.cells #[.int .u64 d.tm, .slice A2 xs.length c2] 55)
   have b4 : Below n w w4 := b3.grown hg4 (by simp; omega) hlow
   have ne1 : 135 ≠ 55 := by decide
   have ne2 : 91 ≠ 55 := by decide
   have hT4 : OwnT w4 n (.slice A4 (es ++ [(⟨d.tm, xs, A2, c2⟩ : Pm)]).length c4) (es ++ [⟨d.tm, xs, A2, c2⟩]) := by
    refine ⟨by rw [flatN_append, List.length_append]; exact hO4, fun y hy => ?_⟩
    rcases List.mem_append.1 hy with h | h
    ·exact ⟨(ho3.2 y h).1.grown ho3.1 ne1 ne2 hg4, (ho3.2 y h).2⟩
    ·rw [List.mem_singleton.1 h]
     exact ⟨((hO2.base (by have := (Below.refl w1.heap.size w1).drew.size; omega)).below ((Below.refl _ _).alloc (Nat.le_refl _) _)).grown ho3.1 ne1 ne2 hg4, HFD.out⟩
   have HO4 := hid hT4
   have HB4 := hid b4
   have HES4 := hid (show (es ++ [(⟨d.tm, xs, A2, c2⟩ : Pm)]).map (·.p) = (ps.take (k + 1)).map (·.p) by rw [HTK.out, List.map_append, HES.out]; simp [Pm.p, hx2])
   have hel : (es ++ [(⟨d.tm, xs, A2, c2⟩ : Pm)]).length = es.length + 1 := by simp
   clear hO2 hx2 hb2 b2 hO4 hg4 hlow b3 b4 hw1 s1 x0 x1 ho3 hT4
   rw [← hel]
   generalize es ++ [(⟨d.tm, xs, A2, c2⟩ : Pm)] = es4 at HO4 HES4 hel ⊢
   clear hel
   go_wp2_with fail
   go_roundg (ps.length - (k + 1))
   case measure => have := HGK.out; omega
   case rel => exact ⟨k + 1, A4, c4, es4, by omega, by go_num, rfl, hid rfl, HO4, HES4, HB4⟩
  ·obtain rfl : k = ps.length := by omega
   go_wp2_with fail
   go_ret
   exact ⟨A1, cc, es, rfl, HOW.out, by rw [HES.out, List.take_length], HBR.out⟩
theorem OwnT.base {w : World} {m n : Nat} {v : Value} {es : List Pm} (h : OwnT w n v es) (hm : m ≤ n) : OwnT w m v es := ⟨own_base h.1 hm, fun d hd => ⟨(h.2 d hd).1.base hm, (h.2 d hd).2⟩⟩
end Go.Proofs.YtnlfcmbpocdpjaaGreat
