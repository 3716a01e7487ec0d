/- astrolabelaw7.RotYaws: the facts, and all its cases. -/
import Derived.Test.YtplojnnjkpeifaaRotYawsR0
import Derived.Test.YtplojnnjkpeifaaRotYawsR1
import Derived.Test.YtplojnnjkpeifaaRotYawsR2
import Derived.Test.YtplojnnjkpeifaaRotYawsR3
import Derived.Test.YtplojnnjkpeifaaTB
namespace Go.Proofs.Ytplojnnjkpeifaa.rotYaws
open Go SX Tr
theorem not0 {z : Int} (h : z = 0) : ieq (b2i (!ieq z 1)) 1 = true := by subst h; rfl
theorem ok0 {g : Sg} {a : Int} (e0 : g 0 = a) (ha : a = 0) (he : EqsP g ds0) : FactsOk g facts0 ∧ ieq (rv0.val g) 1 = true := by
  obtain ⟨e1, e6, e9, e10, e11, e14, e15, e16, e17, e18, e19, e22, e23, e26, e27, e28, e36, _⟩ := eqs0 he
  have k1 : g 1 = a := by rw [e1, e0]; exact SX.wrap_small (by omega) (by omega)
  rw [k1] at e6
  obtain ⟨h, hh, h1, h2⟩ := half_is (a := a) (by omega) (by omega)
  rw [hh] at e6
  have hS : g 11 = sinF (g 6) := e11
  have hC : g 10 = sinF (1686629713 + g 6) := by rw [e10]; show sinF (g 9) = _; rw [e9]; congr 1; omega
  have fS := sinF_in (w := g 6) (by omega) (by omega)
  have fC := cosF_in (w := g 6) (by omega) (by omega)
  rw [← hS] at fS
  rw [← hC] at fC
  obtain ⟨b1, b2, b3, b4, b5, b6⟩ := yaw_T (a := a) (h := g 6) (C := g 10) (S := g 11) (by omega) (by omega) (by omega) (by omega) (by omega) (by omega) (by omega) (by omega) e14 e15 e16 e17 e18 e19 e23 e22
  have e26' : g 26 = atanF (g 23) (g 22) := e26
  rw [← e26'] at b4
  refine ⟨told0 (by omega) (by omega) (by omega) (by omega) (by omega) (by omega) (by omega) (by omega) (by omega), ?_⟩
  show ieq (g 36) 1 = true
  rw [e36]
  exact not0 (e27.trans (U39_no b5 b6))
theorem ok1 {g : Sg} {a : Int} (e0 : g 0 = a) (a1 : -3221225472 ≤ a) (a2 : a ≤ 3221225472) (ha : a ≠ 0) (he : EqsP g ds1) : FactsOk g facts1 ∧ ieq (rv1.val g) 1 = true := by
  obtain ⟨e1, e6, e9, e10, e11, e14, e15, e16, e17, e18, e19, e22, e23, e26, e27, e28, e29, e31, e32, e33, e34, e35, e36, e39, e40, e43, e44, e45, e46, e47, e48, e51, e52, e55, e56, e57, e58, e63, _⟩ := eqs1 he
  have k1 : g 1 = a := by rw [e1, e0]; exact SX.wrap_small (by omega) (by omega)
  rw [k1] at e6 e29 e36
  obtain ⟨h, hh, h1, h2⟩ := half_is (a := a) (by omega) (by omega)
  rw [hh] at e6
  have hS : g 11 = sinF (g 6) := e11
  have hC : g 10 = sinF (1686629713 + g 6) := by rw [e10]; show sinF (g 9) = _; rw [e9]; congr 1; omega
  have fS := sinF_in (w := g 6) (by omega) (by omega)
  have fC := cosF_in (w := g 6) (by omega) (by omega)
  rw [← hS] at fS
  rw [← hC] at fC
  obtain ⟨b1, b2, b3, b4, b5, b6⟩ := yaw_T (a := a) (h := g 6) (C := g 10) (S := g 11) (by omega) (by omega) (by omega) (by omega) (by omega) (by omega) (by omega) (by omega) e14 e15 e16 e17 e18 e19 e23 e22
  have e26' : g 26 = atanF (g 23) (g 22) := e26
  rw [← e26'] at b4
  -- Exp
  rw [len_one (by omega) (by omega)] at e29
  have n1 : 1 ≤ g 29 ∧ g 29 ≤ 3221225472 := by rw [e29]; split <;> omega
  obtain ⟨h', hh', h1', h2'⟩ := half_is (a := g 29) (by omega) (by omega)
  rw [hh'] at e31
  have hs : g 32 = sinF (g 31) := e32
  have hc : g 40 = sinF (1686629713 + g 31) := by rw [e40]; show sinF (g 39) = _; rw [e39]; congr 1; omega
  have fs := sinF_in (w := g 31) (by omega) (by omega)
  have fc := cosF_in (w := g 31) (by omega) (by omega)
  rw [← hs] at fs
  rw [← hc] at fc
  have sl := sT_le (z := g 31) (by omega) (by omega)
  have sb := sT_in (x := g 31) (by omega) (by omega)
  have sb' : g 32 ≤ 1073741824 := by rw [hs]; exact (sinF_bd _).2
  obtain ⟨qb, S', hS', sn, sp⟩ := axis_T (a := a) (n := g 29) (s := g 32) (q := g 33) a1 a2 e29 n1.1 (by omega) (by omega) sb' e33
  rw [hS'] at e36
  have z34 : g 34 = 0 := by rw [e34]; exact U5_no (by omega) (by omega) n1.1 (by omega) (by omega) (by omega)
  have z27 : g 27 = 0 := e27.trans (U39_no b5 b6)
  have fin : (1073741800 ≤ g 43 ∧ g 43 ≤ 1073741850) ∧ (1073741820 ≤ g 46 ∧ g 46 ≤ 1073741828) ∧ 40000000 < g 40 ∧ (-400 ≤ atanF (g 52) (g 51) - a ∧ atanF (g 52) (g 51) - a ≤ 400) ∧ (-1152921504606846976 ≤ g 52 ∧ g 52 ≤ 1152921504606846976) ∧ (-1152921504606846976 ≤ g 51 ∧ g 51 ≤ 1152921504606846976) := by
    rcases Int.lt_or_le a 0 with h0 | h0
    · have i := sn h0
      rw [if_pos h0] at e29
      have ns := sT_neg (g 31)
      have nc := cT_neg (g 31)
      exact yaw_T (a := a) (h := -g 31) (C := g 40) (S := g 36) (by omega) (by omega) (by omega) (by omega) (by omega) (by omega) (by omega) (by omega) e43 e44 e45 e46 e47 e48 e52 e51
    · have i := sp h0
      rw [if_neg (by omega)] at e29
      exact yaw_T (a := a) (h := g 31) (C := g 40) (S := g 36) (by omega) (by omega) (by omega) (by omega) (by omega) (by omega) (by omega) (by omega) e43 e44 e45 e46 e47 e48 e52 e51
  obtain ⟨d1, d2, d3, d4, d5, d6⟩ := fin
  have e55' : g 55 = atanF (g 52) (g 51) := e55
  rw [← e55'] at d4
  have s36 : -1073741900 < g 36 ∧ g 36 < 1073741900 := by
    rcases Int.lt_or_le a 0 with h0 | h0
    · have i := sn h0; omega
    · have i := sp h0; omega
  refine ⟨told1 (by omega) (by omega) (by omega) (by omega) (by omega) (by omega) (by omega) (by omega) (by omega) (by omega) (by omega) (by omega) (by omega) (by omega) (by omega) (by omega) (by omega) (by omega) (by omega) (by omega) (by omega), ?_⟩
  show ieq (g 63) 1 = true
  have z56 : g 56 = 0 := e56.trans (U39_no d5 d6)
  have z57 : g 57 = 0 := by rw [e57, e35, z27, z34, z56]; rfl
  rw [e63]
  exact not0 z57
theorem walk {a : Int} (wa : (Lit.int .i64 a).wf = true) {W : World} (fit : FitAs W [.one (some .i64)] [.int .i64 a] [.int .i64 a]) :
    Calls Try.prog 6 #[.int .i64 a] W fun e w' => e = .returned (.bool true) ∧ RowKit.Below W.heap.size W w' := by
  have v0 := wf_i64 wa
  have k1 : ∀ {g : Sg}, g 0 = a → g 1 = wrapF .i64 (g 0) → g 1 = a := fun h h1 => by rw [h1, h]; exact SX.wrap_small (by omega) (by omega)
  by_cases h1 : a < -3221225472
  · exact law_fitH (all := [.int .i64 a]) namesOk mixed (fun g => sumsR_ok g) ran2 (fun g hg he => ⟨told2 (by have := k1 (hg 0 (by decide)) (eqs2 he).1; omega), rfl⟩) fit
  by_cases h2 : 3221225472 < a
  · exact law_fitH (all := [.int .i64 a]) namesOk mixed (fun g => sumsR_ok g) ran3 (fun g hg he => by
      have := k1 (hg 0 (by decide)) (eqs3 he).1
      exact ⟨told3 (by omega) (by omega), rfl⟩) fit
  by_cases h3 : a = 0
  · exact law_fitH (all := [.int .i64 a]) namesOk mixed (fun g => sumsR_ok g) ran0 (fun g hg he => ok0 (a := a) (hg 0 (by decide)) h3 he) fit
  · exact law_fitH (all := [.int .i64 a]) namesOk mixed (fun g => sumsR_ok g) ran1 (fun g hg he => ok1 (a := a) (hg 0 (by decide)) (by omega) (by omega) h3 he) fit
end Go.Proofs.Ytplojnnjkpeifaa.rotYaws
