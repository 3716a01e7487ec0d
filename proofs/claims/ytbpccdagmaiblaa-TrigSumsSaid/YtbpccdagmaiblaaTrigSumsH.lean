/- astrolabelaw4.TrigSums: the facts, and all its cases. -/
import Derived.Test.YtbpccdagmaiblaaTrigSumsR0
import Derived.Test.YtbpccdagmaiblaaTrigSumsR1
import Derived.Test.YtbpccdagmaiblaaTrigSumsR2
import Derived.Test.YtbpccdagmaiblaaTrigSumsR3
import Derived.Test.YtbpccdagmaiblaaTrigSumsR4
import Derived.Test.YtbpccdagmaiblaaTrK
namespace Go.Proofs.Ytbpccdagmaiblaa.trigSums
open Go SX Tr
theorem ok0 {g : Sg} {a b : Int} (e0 : g 0 = a) (e1 : g 1 = b) (a1 : -4294967296 ≤ a) (a2 : a ≤ 4294967296) (b1 : -4294967296 ≤ b) (b2 : b ≤ 4294967296) (he : EqsP g ds0) : FactsOk g facts0 ∧ ieq (rv0.val g) 1 = true := by
  obtain ⟨e2, e3, e8, e9, e10, e11, e13, e14, e15, e16, e17, e18, e19, e20, e22, e23, e24, e25, e26, e27, e28, e30, e32, e33, e34, e35, e36, e37, e39, e40, e41, e42, e44, e45, e46, e47, e48, e49, e50, e51, e52, e53, e54, _⟩ := eqs0 he
  have k2 : g 2 = a := by rw [e2, e0]; exact SX.wrap_small (by omega) (by omega)
  have k3 : g 3 = b := by rw [e3, e1]; exact SX.wrap_small (by omega) (by omega)
  have w15 : g 15 = wrapT a := sel_wrapT ((tmod_id (x := a) (by omega) (by omega)).symm ▸ k2) e9 e10 e11 e13 e14 e15
  have w24 : g 24 = wrapT b := sel_wrapT ((tmod_id (x := b) (by omega) (by omega)).symm ▸ k3) e18 e19 e20 e22 e23 e24
  have k32 : g 32 = a + b := by omega
  have w46 : g 46 = wrapT (a + b) := sel_wrapT (k32 ▸ e39) e40 e41 e42 e44 e45 e46
  have c8 : g 8 = sinF a := by rw [e8, k2]; rfl
  have c27 : g 27 = sinF b := by rw [e27, k3]; rfl
  have c17 : g 17 = sinF (1686629713 + wrapT a) := by rw [e17]; show sinF (g 16) = _; congr 1; omega
  have c26 : g 26 = sinF (1686629713 + wrapT b) := by rw [e26]; show sinF (g 25) = _; congr 1; omega
  have c33 : g 33 = sinF (a + b) := by rw [e33, k32]; rfl
  have c48 : g 48 = sinF (1686629713 + wrapT (a + b)) := by rw [e48]; show sinF (g 47) = _; congr 1; omega
  obtain ⟨h1, h2⟩ := sums_num a1 a2 b1 b2 c8 c27 c17 c26 e28 e30
  rw [← c33] at h1
  rw [← c48] at h2
  refine ⟨told0 (by omega) (by omega) (by omega) (by omega) (sel_abs (d := g 34) (by omega) e35 e37 (by omega) (by omega)), ?_⟩
  show ieq (g 54) 1 = true
  exact no_less (sel_abs (d := g 49) (K := 200) (by omega) e50 e52 (by omega) (by omega)) e53 e54
theorem walk {a b : Int} (wa : (Lit.int .i64 a).wf = true) (wb : (Lit.int .i64 b).wf = true) {W : World} (fit : FitAs W [.one (some .i64), .one (some .i64)] [.int .i64 a, .int .i64 b] [.int .i64 a, .int .i64 b]) :
    Calls Try.prog 4 #[.int .i64 a, .int .i64 b] W fun e w' => e = .returned (.bool true) ∧ RowKit.Below W.heap.size W w' := by
  have v0 := wf_i64 wa
  have v1 := wf_i64 wb
  have k2 : ∀ {g : Sg}, g 0 = a → g 2 = wrapF .i64 (g 0) → g 2 = a := fun h h1 => by rw [h1, h]; exact SX.wrap_small (by omega) (by omega)
  have k3 : ∀ {g : Sg}, g 1 = b → g 3 = wrapF .i64 (g 1) → g 3 = b := fun h h1 => by rw [h1, h]; exact SX.wrap_small (by omega) (by omega)
  by_cases h1 : a < -4294967296
  · exact law_fitH (all := [.int .i64 a, .int .i64 b]) namesOk mixed (fun g => sumsS_ok g) ran1 (fun g hg he => ⟨told1 (by have := k2 (hg 0 (by decide)) (eqs1 he).1; omega), rfl⟩) fit
  by_cases h2 : 4294967296 < a
  · exact law_fitH (all := [.int .i64 a, .int .i64 b]) namesOk mixed (fun g => sumsS_ok g) ran2 (fun g hg he => by
      have := k2 (hg 0 (by decide)) (eqs2 he).1
      exact ⟨told2 (by omega) (by omega), rfl⟩) fit
  by_cases h3 : b < -4294967296
  · exact law_fitH (all := [.int .i64 a, .int .i64 b]) namesOk mixed (fun g => sumsS_ok g) ran3 (fun g hg he => by
      have := k2 (hg 0 (by decide)) (eqs3 he).1
      have := k3 (hg 1 (by decide)) (eqs3 he).2.1
      exact ⟨told3 (by omega) (by omega) (by omega), rfl⟩) fit
  by_cases h4 : 4294967296 < b
  · exact law_fitH (all := [.int .i64 a, .int .i64 b]) namesOk mixed (fun g => sumsS_ok g) ran4 (fun g hg he => by
      have := k2 (hg 0 (by decide)) (eqs4 he).1
      have := k3 (hg 1 (by decide)) (eqs4 he).2.1
      exact ⟨told4 (by omega) (by omega) (by omega) (by omega), rfl⟩) fit
  · exact law_fitH (all := [.int .i64 a, .int .i64 b]) namesOk mixed (fun g => sumsS_ok g) ran0 (fun g hg he => ok0 (a := a) (b := b) (hg 0 (by decide)) (hg 1 (by decide)) (by omega) (by omega) (by omega) (by omega) he) fit
end Go.Proofs.Ytbpccdagmaiblaa.trigSums
