/- astrolabelaw4.TrigCircle: the facts, and all its cases. -/
import Derived.Test.YtbpccdagmaiblaaTrigCircleR0
import Derived.Test.YtbpccdagmaiblaaTrigCircleR1
import Derived.Test.YtbpccdagmaiblaaTrigCircleR2
import Derived.Test.YtbpccdagmaiblaaTrK
namespace Go.Proofs.Ytbpccdagmaiblaa.trigCircle
open Go SX Tr
theorem not0 {z : Int} (h : z = 0) : ieq (b2i (!ieq z 1)) 1 = true := by subst h; rfl
theorem ok0 {g : Sg} {a : Int} (e0 : g 0 = a) (a1 : -8589934592 ≤ a) (a2 : a ≤ 8589934592) (he : EqsP g ds0) : FactsOk g facts0 ∧ CsOk g cs0 ∧ ieq (rv0.val g) 1 = true := by
  obtain ⟨e1, e4, e5, e6, e7, e8, e10, e11, e12, e13, e14, e15, e16, e17, e18, e19, e21, e22, e23, e24, e26, e27, e28, e29, e31, e32, e33, e34, e35, e36, e37, e38, e39, e41, e42, e43, e44, e45, e46, e48, e49, e50, e51, e52, e53, e54, e56, e57, e58, e59, e60, e61, e63, _⟩ := eqs0 he
  have k1 : g 1 = a := by rw [e1, e0]; exact SX.wrap_small (by omega) (by omega)
  rw [k1] at e4 e5
  have k21 : g 21 = -a := by omega
  rw [k21] at e22 e26
  have w12 : g 12 = wrapT a := sel_wrapT e5 e6 e7 e8 e10 e11 e12
  have w33 : g 33 = wrapT (-a) := sel_wrapT e26 e27 e28 e29 e31 e32 e33
  have w58 : g 58 = wrapT (g 50) := sel_wrapT e51 e52 e53 e54 e56 e57 e58
  have c4 : g 4 = sinF a := e4
  have c14 : g 14 = sinF (1686629713 + wrapT a) := by rw [e14]; show sinF (g 13) = _; congr 1; omega
  have c22 : g 22 = sinF (-a) := e22
  have c35 : g 35 = sinF (1686629713 + wrapT (-a)) := by rw [e35]; show sinF (g 34) = _; congr 1; omega
  have c42 : g 42 = sinF (a + 6746518852) := by rw [e42]; show sinF (g 41) = _; congr 1; omega
  have c48 : g 48 = atanF (g 4) (g 14) := e48
  obtain ⟨⟨y, hy, y1, y2⟩, h2, h3, h4, h5, h6⟩ := circle_num a1 a2 c4 c14
  rw [← e15] at hy
  rw [← c22] at h2
  rw [← c35] at h3
  rw [← c42] at h4
  rw [← c48] at h5 h6
  have k50 : g 50 = g 48 - a := by omega
  rw [← k50, ← w58] at h6
  have b4 : -1073741824 ≤ g 4 ∧ g 4 ≤ 1073741824 := by rw [c4]; exact sinF_bd a
  have b14 : -1073741824 ≤ g 14 ∧ g 14 ≤ 1073741824 := by rw [c14]; exact sinF_bd _
  have k60 : g 60 = -g 58 := by
    rw [e60]
    show wrapF .i64 (0 - g 58) = _
    rw [SX.wrap_small (by omega) (by omega)]
    omega
  refine ⟨told0 (by omega) (by omega) (sel_abs (d := g 16) (K := 100) (by omega) e17 e19 (by omega) (by omega)) (sel_abs (d := g 36) (K := 4) (by omega) e37 e39 (by omega) (by omega))
    (sel_abs (d := g 43) (K := 4) (by omega) e44 e46 (by omega) (by omega)) (sel_abs (d := g 58) (K := 200) k60 e59 e61 (by omega) (by omega)), ⟨?_, trivial⟩, ?_⟩
  · show ieq (g 24) 1 = true
    rw [e24, ieq_b2i]
    show ieq (g 22) (g 23) = true
    rw [ieq_iff]
    exact decide_eq_true (by omega)
  · show ieq (g 63) 1 = true
    rw [e63]
    exact not0 (e49.trans (U39_no (by omega) (by omega)))
theorem walk {a : Int} (wa : (Lit.int .i64 a).wf = true) {W : World} (fit : FitAs W [.one (some .i64)] [.int .i64 a] [.int .i64 a]) :
    Calls Try.prog 3 #[.int .i64 a] W fun e w' => e = .returned (.bool true) ∧ RowKit.Below W.heap.size W w' := by
  have v0 := wf_i64 wa
  have k1 : ∀ {g : Sg}, g 0 = a → g 1 = wrapF .i64 (g 0) → g 1 = a := fun h h1 => by rw [h1, h]; exact SX.wrap_small (by omega) (by omega)
  by_cases h1 : a < -8589934592
  · exact law_fitH (all := [.int .i64 a]) namesOk mixed (fun g => sumsR_ok g) ran1 (fun g hg he => ⟨told1 (by have := k1 (hg 0 (by decide)) (eqs1 he).1; omega), rfl⟩) fit
  by_cases h2 : 8589934592 < a
  · exact law_fitH (all := [.int .i64 a]) namesOk mixed (fun g => sumsR_ok g) ran2 (fun g hg he => by
      have := k1 (hg 0 (by decide)) (eqs2 he).1
      exact ⟨told2 (by omega) (by omega), rfl⟩) fit
  · exact law_fitQ (all := [.int .i64 a]) namesOk mixed (fun g => sumsR_ok g) ran0 (fun g hg he => ok0 (a := a) (hg 0 (by decide)) (by omega) (by omega) he) fit
end Go.Proofs.Ytbpccdagmaiblaa.trigCircle
