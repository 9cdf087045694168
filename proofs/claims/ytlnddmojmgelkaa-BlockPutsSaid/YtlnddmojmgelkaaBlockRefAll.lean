/-
  The document's own Whole, Put and Frame of points.
-/
import Derived.Test.YtlnddmojmgelkaaBlockRef
import Derived.Test.YtlnddmojmgelkaaTraceRefs
import Derived.Test.YtlnddmojmgelkaaFrameRef
namespace Go.Proofs.Ytlnddmojmgelkaa
open Go.RowKit Go.ChangeShapes Go.WideShapes
set_option linter.unusedVariables false

section
variable (A : Option Addr) (c : Nat) (ds : List Pd) (T : Option Addr) (ct : Nat) (ps : List Pm) (w : World)
set_option maxRecDepth 100000 in
set_option maxHeartbeats 1000000 in
theorem rwhole_any (hrow : PredRow w w.heap.size (.slice A ds.length c) ds) (ht : TrRow w w.heap.size (.slice T ps.length ct) ps) :
    Calls Try.prog 22 #[.slice A ds.length c, .slice T ps.length ct] w fun e w' => e = .returned (.tuple #[.string (strOfNums (wholeB (ds.map (·.p)) ps).1), .int .i64 (wholeB (ds.map (·.p)) ps).2]) ∧ Below w.heap.size w w' := by
  obtain ⟨-, hc1, hc2⟩ := ht.1.len
  have HCK := Lib.hid (rtcheck_any A c ds T ct ps w hrow ht)
  have hw : ∀ h : checkB (ds.map (·.p)) ps ≠ 0, wholeB (ds.map (·.p)) ps = ([], checkB (ds.map (·.p)) ps) := fun h => if_neg h
  by_cases h0 : ps.length = 0
  · have hck : checkB (ds.map (·.p)) ps = 1 := if_pos h0
    rw [hw (by rw [hck]; decide), hck]
    rw [h0] at HCK hc1 ⊢
    clear h0 hck hw hrow ht
    go_enter Try.func22, Try.ntmps22
    go_wp2_with fail
    go_ret2
    exact ⟨rfl, Below.refl _ _⟩
  · have hn0 : ¬ (ps.length : Int) = 0 := by omega
    have hne0 : ((ps.length : Int) == 0) = false := beq_eq_false_iff_ne.2 hn0
    by_cases h1 : (checkT (ds.map (·.p)) (ps.map (·.p))).1 = 0
    · by_cases h2 : 1024 < ps.length
      · have hck : checkB (ds.map (·.p)) ps = 6 := by unfold checkB; rw [if_neg h0, if_neg (fun h => h h1), if_pos h2]
        rw [hw (by rw [hck]; decide), hck]
        rw [h1] at HCK
        generalize checkT (ds.map (·.p)) (ps.map (·.p)) = C at HCK h1
        obtain ⟨n, hn⟩ : ∃ n, ps.length = n := ⟨_, rfl⟩
        rw [hn] at HCK hc1 h0 hn0 hne0 h2 ⊢
        have h2' : (1024 : Int) < (n : Int) := by omega
        clear hn hck hw hrow ht h1
        go_enter Try.func22, Try.ntmps22
        go_wp2_with fail
        refine HCK.out.mono ?_
        rintro e w1 ⟨rfl, hb1⟩
        go_wp2_with fail
        go_ret2
        exact ⟨rfl, hb1⟩
      · have hck : checkB (ds.map (·.p)) ps = 0 := by unfold checkB; rw [if_neg h0, if_neg (fun h => h h1), if_neg h2]
        have hbo := ht.bok hck
        rw [show wholeB (ds.map (·.p)) ps = (payB ps, 0) from if_pos hck]
        rw [h1] at HCK
        have HT := Lib.hid (fun W (hb : Below w.heap.size w W) => rtext_any T ct ps W ((ht.below hb).more hb.size) hbo (by omega))
        generalize checkT (ds.map (·.p)) (ps.map (·.p)) = C at HCK h1
        dsimp only
        generalize payB ps = P at HT ⊢
        obtain ⟨n, hn⟩ : ∃ n, ps.length = n := ⟨_, rfl⟩
        rw [hn] at HCK HT hc1 h0 hn0 hne0 h2 ⊢
        have h2' : ¬ (1024 : Int) < (n : Int) := by omega
        have h2'' : (n : Int) ≤ 1024 := by omega
        clear hn hck hw hrow ht h1 hbo
        go_enter Try.func22, Try.ntmps22
        go_wp2_with fail
        refine HCK.out.mono ?_
        rintro e w1 ⟨rfl, hb1⟩
        go_wp2_with fail
        refine (HT.out _ hb1).mono ?_
        rintro e w2 ⟨rfl, hb2⟩
        have HB2 := Lib.hid (hb1.trans (hb2.mono hb1.size))
        clear hb1 hb2
        go_wp2_with fail
        go_ret2
        exact ⟨rfl, HB2.out⟩
    · have hck : checkB (ds.map (·.p)) ps = (checkT (ds.map (·.p)) (ps.map (·.p))).1 := by unfold checkB; rw [if_neg h0, if_pos h1]
      rw [hw (by rw [hck]; exact h1), hck]
      generalize checkT (ds.map (·.p)) (ps.map (·.p)) = C at HCK h1 ⊢
      have hne : (C.1 != 0) = true := bne_iff_ne.2 h1
      obtain ⟨n, hn⟩ : ∃ n, ps.length = n := ⟨_, rfl⟩
      rw [hn] at HCK hc1 h0 hn0 hne0 ⊢
      clear hn hck hw hrow ht
      go_enter Try.func22, Try.ntmps22
      go_wp2_with fail
      refine HCK.out.mono ?_
      rintro e w1 ⟨rfl, hb1⟩
      go_wp2_with fail
      go_ret2
      exact ⟨rfl, hb1⟩
#print axioms rwhole_any

set_option maxRecDepth 100000 in
set_option maxHeartbeats 1000000 in
theorem rput14_any (hrow : PredRow w w.heap.size (.slice A ds.length c) ds) (ht : TrRow w w.heap.size (.slice T ps.length ct) ps) :
    Calls Try.prog 18 #[.slice A ds.length c, .slice T ps.length ct] w fun e w' => e = .returned (.tuple #[.string (strOfNums (putB (ds.map (·.p)) ps).1), .int .i64 (putB (ds.map (·.p)) ps).2]) ∧ Below w.heap.size w w' := by
  have hwh := rwhole_any A c ds T ct ps w hrow ht
  unfold wholeB at hwh
  unfold putB
  by_cases h0 : checkB (ds.map (·.p)) ps = 0
  · rw [if_pos h0] at hwh ⊢
    have hpl := payB_len (ht.bok h0)
    clear h0 hrow ht
    dsimp only at hwh
    generalize payB ps = P at hwh hpl ⊢
    have HW := Lib.hid hwh
    have hss : (strOfNums P).size = P.length := strOfNums_size P
    clear hwh
    by_cases h1 : 4096 < P.length
    · rw [if_pos h1]
      have h1' : (4096 : Int) < ((strOfNums P).size : Int) := by rw [hss]; omega
      generalize strOfNums P = S at HW h1' hss
      go_enter Try.func18, Try.ntmps18
      go_wp2_with fail
      refine HW.out.mono ?_
      rintro e w1 ⟨rfl, hb1⟩
      go_wp2_with fail
      go_ret2
      exact ⟨rfl, hb1⟩
    · rw [if_neg h1]
      have h1' : ¬ (4096 : Int) < ((strOfNums P).size : Int) := by rw [hss]; omega
      dsimp only
      generalize strOfNums P = S at HW h1' hss ⊢
      go_enter Try.func18, Try.ntmps18
      go_wp2_with fail
      refine HW.out.mono ?_
      rintro e w1 ⟨rfl, hb1⟩
      go_wp2_with fail
      go_ret2
      exact ⟨rfl, hb1⟩
  · rw [if_neg h0] at hwh ⊢
    have hne : (checkB (ds.map (·.p)) ps == 0) = false := beq_eq_false_iff_ne.2 h0
    generalize checkB (ds.map (·.p)) ps = C at hwh hne h0 ⊢
    have HW := Lib.hid hwh
    clear hwh hrow ht
    go_enter Try.func18, Try.ntmps18
    go_wp2_with fail
    refine HW.out.mono ?_
    rintro e w1 ⟨rfl, hb1⟩
    go_wp2_with fail
    go_ret2
    exact ⟨rfl, hb1⟩
#print axioms rput14_any

set_option maxRecDepth 100000 in
set_option maxHeartbeats 1000000 in
theorem rframe14_any (hrow : PredRow w w.heap.size (.slice A ds.length c) ds) (ht : TrRow w w.heap.size (.slice T ps.length ct) ps) :
    Calls Try.prog 20 #[.slice A ds.length c, .slice T ps.length ct] w fun e w' => e = .returned (.tuple #[.string (strOfNums (frameB (ds.map (·.p)) ps).1), .int .i64 (frameB (ds.map (·.p)) ps).2]) ∧ Below w.heap.size w w' := by
  have hput := rput14_any A c ds T ct ps w hrow ht
  unfold frameB
  by_cases h0 : (putB (ds.map (·.p)) ps).2 = 0
  · rw [if_pos h0]
    obtain ⟨h1, hl, h3⟩ := putB_ok h0
    have hby := payB_bytes (ht.bok h1)
    clear hrow ht h0 h1
    rw [h3] at hput ⊢
    dsimp only at hput ⊢
    clear h3
    generalize payB ps = p at hput hl hby ⊢
    have HP := Lib.hid hput
    have HBY := Lib.hid hby
    have hss : (strOfNums p).size = p.length := strOfNums_size p
    clear hput hby
    go_enter Try.func20, Try.ntmps20
    go_wp2_with fail
    refine HP.out.mono ?_
    rintro e w1 ⟨rfl, hb1⟩
    obtain ⟨A2, c2, w2, hcv, hr2, hb2⟩ := conv_bytes (P := Try.prog) w1 9 46 5 Try.underlying9 Try.underlying46 Try.underlying5 p HBY.out (by omega)
    have HB2 := Lib.hid (hb1.trans (hb2.mono hb1.size))
    have HF := Lib.hid (rfput_any 2 (.inr rfl) A2 c2 p (by omega) HBY.out w2 hr2)
    clear hb1 hb2 hr2
    go_wp2_with fail
    refine HF.out.mono ?_
    rintro e w3 ⟨rfl, hb3⟩
    have HB3 := Lib.hid (HB2.out.trans (hb3.mono HB2.out.size))
    clear hb3
    go_wp2_with fail
    go_ret2
    exact ⟨rfl, HB3.out⟩
  · rw [if_neg h0]
    have hne : ((putB (ds.map (·.p)) ps).2 != 0) = true := bne_iff_ne.2 h0
    generalize putB (ds.map (·.p)) ps = C at hput hne ⊢
    have HP := Lib.hid hput
    clear hput h0 hrow ht
    go_enter Try.func20, Try.ntmps20
    go_wp2_with fail
    refine HP.out.mono ?_
    rintro e w1 ⟨rfl, hb1⟩
    have HB1 := Lib.hid hb1
    clear hb1
    go_wp2_with fail
    go_ret2
    exact ⟨rfl, HB1.out⟩
#print axioms rframe14_any
end
end Go.Proofs.Ytlnddmojmgelkaa
