/- astrolabelaw4.TrigRises: the facts, and all its cases. -/
import Derived.Test.YtbpccdagmaiblaaTrigRisesR0
import Derived.Test.YtbpccdagmaiblaaTrigRisesR1
import Derived.Test.YtbpccdagmaiblaaTrigRisesR2
import Derived.Test.YtbpccdagmaiblaaTrigRisesR3
import Derived.Test.YtbpccdagmaiblaaTrigRisesR4
import Derived.Test.YtbpccdagmaiblaaTrigRisesR5
import Derived.Test.YtbpccdagmaiblaaTrigRisesR6
import Derived.Test.YtbpccdagmaiblaaTrK
namespace Go.Proofs.Ytbpccdagmaiblaa.trigRises
open Go SX Tr
theorem ok0 {g : Sg} {a b : Int} (e0 : g 0 = a) (e1 : g 1 = b) (a1 : -1686629713 ≤ a) (b1 : b ≤ 1686629713) (h : a ≤ b) (hd : ¬ (b - a < 65536)) (hn : a < 0) (he : EqsP g ds0) : FactsOk g facts0 ∧ ieq (rv0.val g) 1 = true := by
  obtain ⟨e2, e3, e6, e9, e10, e11, _⟩ := eqs0 he
  have k2 : g 2 = a := by rw [e2, e0]; exact SX.wrap_small (by omega) (by omega)
  have k3 : g 3 = b := by rw [e3, e1]; exact SX.wrap_small (by omega) (by omega)
  have c9 : g 9 = sinF a := by rw [e9, k2]; rfl
  have c10 : g 10 = sinF b := by rw [e10, k3]; rfl
  have n := rises_num a1 b1 h
  exact ⟨told0 (by omega) (by omega) (by omega) (by omega) (by omega) (by omega), rfl⟩
theorem ok1 {g : Sg} {a b : Int} (e0 : g 0 = a) (e1 : g 1 = b) (b1 : b ≤ 1686629713) (h : a ≤ b) (hd : ¬ (b - a < 65536)) (hn : 0 ≤ a) (he : EqsP g ds1) : FactsOk g facts1 ∧ ieq (rv1.val g) 1 = true := by
  obtain ⟨e2, e3, e6, e9, e10, e11, e16, e17, e19, e22, e23, e26, e27, _⟩ := eqs1 he
  have k2 : g 2 = a := by rw [e2, e0]; exact SX.wrap_small (by omega) (by omega)
  have k3 : g 3 = b := by rw [e3, e1]; exact SX.wrap_small (by omega) (by omega)
  have c9 : g 9 = sinF a := by rw [e9, k2]; rfl
  have c10 : g 10 = sinF b := by rw [e10, k3]; rfl
  have n := rises_num (a := a) (by omega) b1 h
  have c17 : g 17 = sinF (1686629713 + a) := by rw [e17]; show sinF (g 16) = _; congr 1; omega
  have c23 : g 23 = sinF (1686629713 + b) := by rw [e23]; show sinF (g 22) = _; congr 1; omega
  have m := falls_num hn b1 h
  refine ⟨told1 (by omega) (by omega) (by omega) (by omega) (by omega) (by omega), ?_⟩
  show ieq (g 27) 1 = true
  exact no_less (by omega) e26 e27
theorem walk {a b : Int} (wa : (Lit.int .i64 a).wf = true) (wb : (Lit.int .i64 b).wf = true) {W : World} (fit : FitAs W [.one (some .i64), .one (some .i64)] [.int .i64 a, .int .i64 b] [.int .i64 a, .int .i64 b]) :
    Calls Try.prog 6 #[.int .i64 a, .int .i64 b] W fun e w' => e = .returned (.bool true) ∧ RowKit.Below W.heap.size W w' := by
  have v0 := wf_i64 wa
  have v1 := wf_i64 wb
  have k2 : ∀ {g : Sg}, g 0 = a → g 2 = wrapF .i64 (g 0) → g 2 = a := fun h h1 => by rw [h1, h]; exact SX.wrap_small (by omega) (by omega)
  have k3 : ∀ {g : Sg}, g 1 = b → g 3 = wrapF .i64 (g 1) → g 3 = b := fun h h1 => by rw [h1, h]; exact SX.wrap_small (by omega) (by omega)
  by_cases h1 : a < -1686629713
  · exact law_fitH (all := [.int .i64 a, .int .i64 b]) namesOk mixed (fun g => sumsS_ok g) ran2 (fun g hg he => ⟨told2 (by have := k2 (hg 0 (by decide)) (eqs2 he).1; omega), rfl⟩) fit
  by_cases h2 : 1686629713 < b
  · exact law_fitH (all := [.int .i64 a, .int .i64 b]) namesOk mixed (fun g => sumsS_ok g) ran3 (fun g hg he => by
      have := k2 (hg 0 (by decide)) (eqs3 he).1
      have := k3 (hg 1 (by decide)) (eqs3 he).2.1
      exact ⟨told3 (by omega) (by omega), rfl⟩) fit
  by_cases h3 : b < a
  · -- whatever the difference is
    by_cases h4 : mean U (.iop .sub .i64) [b, a] < 65536
    · exact law_fitH (all := [.int .i64 a, .int .i64 b]) namesOk mixed (fun g => sumsS_ok g) ran5 (fun g hg he => by
        have x2 := k2 (hg 0 (by decide)) (eqs5 he).1
        have x3 := k3 (hg 1 (by decide)) (eqs5 he).2.1
        have e6 := (eqs5 he).2.2.1
        exact ⟨told5 (by omega) (by omega) (by omega) (by rw [e6, x2, x3]; first | exact h4 | omega), rfl⟩) fit
    · exact law_fitH (all := [.int .i64 a, .int .i64 b]) namesOk mixed (fun g => sumsS_ok g) ran6 (fun g hg he => by
        have x2 := k2 (hg 0 (by decide)) (eqs6 he).1
        have x3 := k3 (hg 1 (by decide)) (eqs6 he).2.1
        have e6 := (eqs6 he).2.2.1
        exact ⟨told6 (by omega) (by omega) (by omega) (by rw [e6, x2, x3]; first | exact h4 | omega), rfl⟩) fit
  by_cases h4 : b - a < 65536
  · exact law_fitH (all := [.int .i64 a, .int .i64 b]) namesOk mixed (fun g => sumsS_ok g) ran4 (fun g hg he => by
      have := k2 (hg 0 (by decide)) (eqs4 he).1
      have := k3 (hg 1 (by decide)) (eqs4 he).2.1
      have e6 := (eqs4 he).2.2.1
      exact ⟨told4 (by omega) (by omega) (by omega) (by omega), rfl⟩) fit
  by_cases h5 : a < 0
  · exact law_fitH (all := [.int .i64 a, .int .i64 b]) namesOk mixed (fun g => sumsS_ok g) ran0 (fun g hg he => ok0 (a := a) (b := b) (hg 0 (by decide)) (hg 1 (by decide)) (by omega) (by omega) (by omega) h4 h5 he) fit
  · exact law_fitH (all := [.int .i64 a, .int .i64 b]) namesOk mixed (fun g => sumsS_ok g) ran1 (fun g hg he => ok1 (a := a) (b := b) (hg 0 (by decide)) (hg 1 (by decide)) (by omega) (by omega) h4 (by omega) he) fit
end Go.Proofs.Ytbpccdagmaiblaa.trigRises
