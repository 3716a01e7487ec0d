/- astrolabelaw8.EarthPlane: the facts, and all its cases. -/
import Derived.Test.YtbpccdagmaiblaaDoorEarthPlaneR0
import Derived.Test.YtbpccdagmaiblaaDoorEarthPlaneR1
import Derived.Test.YtbpccdagmaiblaaDoorEarthPlaneD
import Derived.Test.YtbpccdagmaiblaaDoorEarthN
import Derived.Test.YtbpccdagmaiblaaDoorEarthF
namespace Go.Proofs.YtbpccdagmaiblaaDoor.earthPlane
open Go SX Tr
theorem plane_num {o0 n e u a s ca c m0 m1 w r ee x nn z m ze A C u1 D : Int} (o1 : -800000000 ≤ o0) (o2 : o0 ≤ 800000000) (n1 : 1 ≤ n) (n2 : n ≤ 10000000) (e1 : 1 ≤ e) (e2 : e ≤ 10000000) (v1 : 1 ≤ u) (v2 : u ≤ 10000000)
    (ha : a = U 6 [o0, 3373259426, 1800000000]) (hs : s = U 36 [a]) (hca : ca = 1 * a + 1686629713) (hc : c = U 36 [ca]) (h0 : m0 = U 2 [s, s, 30]) (h1 : m1 = U 2 [m0, 7188036, 30]) (hw : w = -1 * m1 + 1073741824) (hr : r = U 30 [w])
    (he : ee = U 4 [6531212288, r, 30]) (hx : x = U 2 [w, r, 30]) (hn : nn = U 4 [6487489870, x, 30]) (hz : z = U 6 [nn, 3373259426, 1800000000]) (hm : m = U 2 [c, ee, 30]) (hze : ze = U 6 [m, 3373259426, 1800000000])
    (hu : u1 = -1 * u + 0) (hA : A = U 2 [n, z, 10]) (hC : C = U 2 [e, ze, 10]) (hD : D = U 6 [u1, 1073741824, 1000]) :
    90000000 < c ∧ 1070000000 < r ∧ r < 1073741830 ∧ 0 < A ∧ 0 < C ∧ D < 0 ∧ -(200000 * n) ≤ A - 11860000 * n ∧ A - 11860000 * n ≤ 200000 * n := by
  have e10 : ((2 ^ 10 : Nat) : Int) = 1024 := by decide
  obtain ⟨y, ky, y1, y2⟩ := U6q (a := o0) (b := 3373259426) (d := 1800000000) (B := 1600000000) (by omega) (by omega) (by omega) (by omega) (by omega) (by omega) (by decide) (by omega) (by omega)
  obtain rfl : a = y := ha.trans ky
  have hs' : s = sinF a := hs
  have hc' : c = sinF (1686629713 + a) := by rw [hc]; show sinF ca = _; congr 1; omega
  have c8 := cos80 (x := a) (by omega) (by omega)
  rw [← hc'] at c8
  have bs := sinF_bd a
  rw [← hs'] at bs
  obtain ⟨⟨r1, r2⟩, z1, z2⟩ := scale_n (by omega) (by omega) h0 h1 hw hr hx hn hz
  obtain ⟨q1, q2⟩ := scale_e c8.1 c8.2 r1 r2 he hm hze
  have lo := Int.mul_le_mul n1 z1 (by decide) (by omega)
  have A1 := Int.mul_le_mul_of_nonneg_left z1 (show 0 ≤ n by omega)
  have A2 := Int.mul_le_mul_of_nonneg_left z2 (show 0 ≤ n by omega)
  obtain ⟨A', kA, i1, i2⟩ := U2q (a := n) (b := z) 10 (by omega) (by omega) (by omega) (by omega) (by rw [e10]; omega) (by rw [e10]; omega)
  obtain rfl : A = A' := hA.trans kA
  rw [e10] at i1 i2
  have C1 := Int.mul_le_mul e1 q1 (by decide) (by omega)
  have C2 := Int.mul_le_mul e2 q2 (by omega) (by decide)
  obtain ⟨C', kC, j1, j2⟩ := U2q (a := e) (b := ze) 10 (by omega) (by omega) (by omega) (by omega) (by rw [e10]; omega) (by rw [e10]; omega)
  obtain rfl : C = C' := hC.trans kC
  rw [e10] at j1 j2
  obtain ⟨D', kD, d1, d2⟩ := U6q (a := u1) (b := 1073741824) (d := 1000) (B := 20000000000000) (by omega) (by omega) (by omega) (by omega) (by omega) (by omega) (by decide) (by omega) (by omega)
  obtain rfl : D = D' := hD.trans kD
  refine ⟨c8.1, by omega, by omega, by omega, by omega, by omega, by omega, by omega⟩
theorem ok0 {g : Sg} {o0 o1 o2 n e u : Int} (f0 : g 0 = o0) (f1 : g 1 = o1) (f2 : g 2 = o2) (f3 : g 3 = n) (f4 : g 4 = e) (f5 : g 5 = u) (hin : InP o0 o1 o2 n e u) (h15 : 1800000000 < o1 + e) (he : EqsP g ds0) : FactsOk g facts0 ∧ ieq (rv0.val g) 1 = true := by
  obtain ⟨e6, e7, e8, e9, e10, e11, e41, e42, e45, e46, e47, e48, e49, e50, e51, e52, e53, e54, e55, e56, e57, e79, e80, e83, e84, e86, e90, e93, _⟩ := eqs0 he
  obtain ⟨b0, b1, b2, b3, b4, b5⟩ := hin
  have k6 : g 6 = o0 := by rw [e6, f0]; exact SX.wrap_small (by omega) (by omega)
  have k7 : g 7 = o1 := by rw [e7, f1]; exact SX.wrap_small (by omega) (by omega)
  have k8 : g 8 = o2 := by rw [e8, f2]; exact SX.wrap_small (by omega) (by omega)
  have k9 : g 9 = n := by rw [e9, f3]; exact SX.wrap_small (by omega) (by omega)
  have k10 : g 10 = e := by rw [e10, f4]; exact SX.wrap_small (by omega) (by omega)
  have k11 : g 11 = u := by rw [e11, f5]; exact SX.wrap_small (by omega) (by omega)
  have N := plane_num (by omega) (by omega) (by omega) (by omega) (by omega) (by omega) (by omega) (by omega) e41 e42 e45 e46 e47 e48 e49 e50 e51 e52 e53 e54 e55 e56 e79 e80 e83 e84
  obtain ⟨N1, N2, N3, N4, N5, N6, N7, N8⟩ := N
  clear e6 e7 e8 e9 e10 e11 e41 e42 e45 e46 e47 e48 e49 e50 e51 e52 e53 e54 e55 e56 e79 e80 e83 e84
  exact ⟨told0 (by omega) (by omega) (by omega) (by omega) (by omega) (by omega) (by omega) (by omega) (by omega) (by omega) (by omega) (by omega) (by omega) (by omega) (by omega) (by omega) (by omega) (by omega) (by omega) (by omega) (by omega), rfl⟩
theorem ok1 {g : Sg} {o0 o1 o2 n e u : Int} (f0 : g 0 = o0) (f1 : g 1 = o1) (f2 : g 2 = o2) (f3 : g 3 = n) (f4 : g 4 = e) (f5 : g 5 = u) (hin : InP o0 o1 o2 n e u) (h15 : ¬ (1800000000 < o1 + e)) (he : EqsP g ds1) : FactsOk g facts1 ∧ ieq (rv1.val g) 1 = true := by
  obtain ⟨e6, e7, e8, e9, e10, e11, e41, e42, e45, e46, e47, e48, e49, e50, e51, e52, e53, e54, e55, e56, e57, e79, e80, e83, e84, e86, e90, e93, _⟩ := eqs1 he
  obtain ⟨b0, b1, b2, b3, b4, b5⟩ := hin
  have k6 : g 6 = o0 := by rw [e6, f0]; exact SX.wrap_small (by omega) (by omega)
  have k7 : g 7 = o1 := by rw [e7, f1]; exact SX.wrap_small (by omega) (by omega)
  have k8 : g 8 = o2 := by rw [e8, f2]; exact SX.wrap_small (by omega) (by omega)
  have k9 : g 9 = n := by rw [e9, f3]; exact SX.wrap_small (by omega) (by omega)
  have k10 : g 10 = e := by rw [e10, f4]; exact SX.wrap_small (by omega) (by omega)
  have k11 : g 11 = u := by rw [e11, f5]; exact SX.wrap_small (by omega) (by omega)
  have N := plane_num (by omega) (by omega) (by omega) (by omega) (by omega) (by omega) (by omega) (by omega) e41 e42 e45 e46 e47 e48 e49 e50 e51 e52 e53 e54 e55 e56 e79 e80 e83 e84
  obtain ⟨N1, N2, N3, N4, N5, N6, N7, N8⟩ := N
  clear e6 e7 e8 e9 e10 e11 e41 e42 e45 e46 e47 e48 e49 e50 e51 e52 e53 e54 e55 e56 e79 e80 e83 e84
  exact ⟨told1 (by omega) (by omega) (by omega) (by omega) (by omega) (by omega) (by omega) (by omega) (by omega) (by omega) (by omega) (by omega) (by omega) (by omega) (by omega) (by omega) (by omega) (by omega) (by omega) (by omega) (by omega), rfl⟩
theorem three {us : List Value} (f : FitL [some .i64, some .i64, some .i64] us) : ∃ a b c, us = [.int .i64 a, .int .i64 b, .int .i64 c] ∧ (Lit.int .i64 a).wf = true ∧ (Lit.int .i64 b).wf = true ∧ (Lit.int .i64 c).wf = true := by
  rcases us with _ | ⟨x, _ | ⟨y, _ | ⟨z, _ | ⟨t, r⟩⟩⟩⟩
  · exact f.elim
  · exact f.2.elim
  · exact f.2.2.elim
  · obtain ⟨f1, f2, f3, _⟩ := f
    obtain ⟨a, rfl, wa⟩ := f1
    obtain ⟨b, rfl, wb⟩ := f2
    obtain ⟨c, rfl, wc⟩ := f3
    exact ⟨a, b, c, rfl, wa, wb, wc⟩
  · exact f.2.2.2.elim
theorem walk {us : List Value} {a3 a4 a5 : Int} (f : FitL [some .i64, some .i64, some .i64] us) (w3 : (Lit.int .i64 a3).wf = true) (w4 : (Lit.int .i64 a4).wf = true) (w5 : (Lit.int .i64 a5).wf = true) {W : World} (hL : laidMetH Tryd.prog EarthF.laidE W) :
    Calls Tryd.prog 5 #[.agg ⟨us⟩, .int .i64 a3, .int .i64 a4, .int .i64 a5] W fun e w' => e = .returned (.bool true) ∧ RowKit.Below W.heap.size W w' := by
  obtain ⟨a0, a1, a2, rfl, w0, w1, w2⟩ := three f
  obtain ⟨hG, hT⟩ := EarthF.of_laid hL
  have v0 := wf_i64 w0
  have v1 := wf_i64 w1
  have v2 := wf_i64 w2
  have v3 := wf_i64 w3
  have v4 := wf_i64 w4
  have v5 := wf_i64 w5
  have fit : FitAs W arsP [.agg ⟨[.int .i64 a0, .int .i64 a1, .int .i64 a2]⟩, .int .i64 a3, .int .i64 a4, .int .i64 a5] [.int .i64 a0, .int .i64 a1, .int .i64 a2, .int .i64 a3, .int .i64 a4, .int .i64 a5] :=
    ⟨[.int .i64 a0, .int .i64 a1, .int .i64 a2], _, rfl, ⟨rfl, f⟩, [.int .i64 a3], _, rfl, ⟨rfl, ⟨a3, rfl, w3⟩⟩, [.int .i64 a4], _, rfl, ⟨rfl, ⟨a4, rfl, w4⟩⟩, [.int .i64 a5], _, rfl, ⟨rfl, ⟨a5, rfl, w5⟩⟩, rfl⟩
  by_cases hin : InP a0 a1 a2 a3 a4 a5
  · by_cases h : 1800000000 < a1 + a4
    · exact law_fitG (all := [.int .i64 a0, .int .i64 a1, .int .i64 a2, .int .i64 a3, .int .i64 a4, .int .i64 a5]) namesOk mixed (fun g => sumsW_ok g) ran0 (fun g hg he => ok0 (o0 := a0) (o1 := a1) (o2 := a2) (n := a3) (e := a4) (u := a5) (hg 0 (by decide)) (hg 1 (by decide)) (hg 2 (by decide)) (hg 3 (by decide)) (hg 4 (by decide)) (hg 5 (by decide)) hin h he) fit hG hT
    · exact law_fitG (all := [.int .i64 a0, .int .i64 a1, .int .i64 a2, .int .i64 a3, .int .i64 a4, .int .i64 a5]) namesOk mixed (fun g => sumsW_ok g) ran1 (fun g hg he => ok1 (o0 := a0) (o1 := a1) (o2 := a2) (n := a3) (e := a4) (u := a5) (hg 0 (by decide)) (hg 1 (by decide)) (hg 2 (by decide)) (hg 3 (by decide)) (hg 4 (by decide)) (hg 5 (by decide)) hin h he) fit hG hT
  · -- which of them is out
    obtain ⟨j, hj, h0⟩ := splitP (g := fun i => [0, 0, 0, 0, 0, 0, a0, a1, a2, a3, a4, a5].getD i 0) hin
    have hfo : ∀ g : Sg, g 6 = a0 → g 7 = a1 → g 8 = a2 → g 9 = a3 → g 10 = a4 → g 11 = a5 → FactsOk g (outP j) := fun g k6 k7 k8 k9 k10 k11 => by
      refine facts_cong (fun i hi => ?_) (outP_names j) h0
      rcases (by omega : i = 6 ∨ i = 7 ∨ i = 8 ∨ i = 9 ∨ i = 10 ∨ i = 11) with rfl | rfl | rfl | rfl | rfl | rfl <;> assumption
    refine law_fitG (all := [.int .i64 a0, .int .i64 a1, .int .i64 a2, .int .i64 a3, .int .i64 a4, .int .i64 a5]) namesOk mixed (fun g => sumsW_ok g) (range_all ranO hj) (fun g hg he => ⟨?_, rfl⟩) fit hG hT
    obtain ⟨e6, e7, e8, e9, e10, e11, _⟩ := he
    have k6 : g 6 = a0 := by rw [show g 6 = wrapF .i64 (g 0) from e6, hg 0 (by decide)]; exact SX.wrap_small v0.1 v0.2
    have k7 : g 7 = a1 := by rw [show g 7 = wrapF .i64 (g 1) from e7, hg 1 (by decide)]; exact SX.wrap_small v1.1 v1.2
    have k8 : g 8 = a2 := by rw [show g 8 = wrapF .i64 (g 2) from e8, hg 2 (by decide)]; exact SX.wrap_small v2.1 v2.2
    have k9 : g 9 = a3 := by rw [show g 9 = wrapF .i64 (g 3) from e9, hg 3 (by decide)]; exact SX.wrap_small v3.1 v3.2
    have k10 : g 10 = a4 := by rw [show g 10 = wrapF .i64 (g 4) from e10, hg 4 (by decide)]; exact SX.wrap_small v4.1 v4.2
    have k11 : g 11 = a5 := by rw [show g 11 = wrapF .i64 (g 5) from e11, hg 5 (by decide)]; exact SX.wrap_small v5.1 v5.2
    exact hfo g k6 k7 k8 k9 k10 k11
end Go.Proofs.YtbpccdagmaiblaaDoor.earthPlane
