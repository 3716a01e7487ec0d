/- astrolabelaw8.EarthRound: the facts, and all its cases. -/
import Derived.Test.YtbpccdagmaiblaaDoorEarthRoundR0
import Derived.Test.YtbpccdagmaiblaaDoorEarthRoundR1
import Derived.Test.YtbpccdagmaiblaaDoorEarthRoundR2
import Derived.Test.YtbpccdagmaiblaaDoorEarthRoundR3
import Derived.Test.YtbpccdagmaiblaaDoorEarthRoundR4
import Derived.Test.YtbpccdagmaiblaaDoorEarthRoundD
import Derived.Test.YtbpccdagmaiblaaDoorEarthF
namespace Go.Proofs.YtbpccdagmaiblaaDoor.earthRound
open Go SX
/-- Half a turn to the east and to the west are one way. -/
theorem round_eq {o d c1 f x y c2 v z r sc : Int} (hd : d = (-1) * o + 1800000000) (h1 : c1 = b2i (cmpF .lss 1800000000 d)) (hf : f = (-1) * o + (-1800000000)) (hx : x = bif ieq c1 1 then f else d) (hy : y = U 2 [sc, x, 10])
    (h2 : c2 = b2i (cmpF .lss (-1800000000) f)) (hv : v = bif ieq c2 1 then f else d) (hz : z = U 2 [sc, v, 10]) (hr : r = b2i (cmpF .eql y z)) : ieq r 1 = true := by
  subst h1 h2
  rw [ieq_b2i] at hx hv
  simp only [cmpF, ile_iff] at hx hv
  have e : x = v := by
    by_cases h : o < 0
    · rw [decide_eq_false (by omega), Bool.not_false, cond_true] at hx
      rw [decide_eq_false (by omega), Bool.not_false, cond_true] at hv
      omega
    · rw [decide_eq_true (by omega), Bool.not_true, cond_false] at hx
      rw [decide_eq_true (by omega), Bool.not_true, cond_false] at hv
      omega
  subst e
  rw [hr, ieq_b2i, hy, hz]
  simp only [cmpF]
  rw [ieq_iff]
  exact decide_eq_true rfl
theorem ok0 {g : Sg} {o0 o1 o2 l a : Int} (f0 : g 0 = o0) (f1 : g 1 = o1) (f2 : g 2 = o2) (f3 : g 3 = l) (f4 : g 4 = a) (hin : InR o0 o1 o2 l a) (h1 : -900000000 ≤ l) (h2 : l ≤ -450000001) (he : EqsP g ds0) : FactsOk g facts0 ∧ ieq (rv0.val g) 1 = true := by
  obtain ⟨e5, e6, e7, e8, e9, e29, e30, e33, e34, e35, e36, e37, e38, e39, e48, e49, e71, e75, e76, e78, e79, e85, e87, e88, e91, _⟩ := eqs0 he
  obtain ⟨⟨b0, b1, b2⟩, b3, b4⟩ := hin
  have k5 : g 5 = o0 := by rw [e5, f0]; exact SX.wrap_small (by omega) (by omega)
  have k6 : g 6 = o1 := by rw [e6, f1]; exact SX.wrap_small (by omega) (by omega)
  have k7 : g 7 = o2 := by rw [e7, f2]; exact SX.wrap_small (by omega) (by omega)
  have k8 : g 8 = l := by rw [e8, f3]; exact SX.wrap_small (by omega) (by omega)
  have k9 : g 9 = a := by rw [e9, f4]; exact SX.wrap_small (by omega) (by omega)
  exact ⟨told0 (by omega) (by omega) (by omega) (by omega) (by omega) (by omega) (by omega) (by omega) (by omega) (by omega), round_eq e71 e75 e76 e78 e79 e85 e87 e88 e91⟩
theorem ok1 {g : Sg} {o0 o1 o2 l a : Int} (f0 : g 0 = o0) (f1 : g 1 = o1) (f2 : g 2 = o2) (f3 : g 3 = l) (f4 : g 4 = a) (hin : InR o0 o1 o2 l a) (h1 : -450000000 ≤ l) (h2 : l ≤ -1) (he : EqsP g ds1) : FactsOk g facts1 ∧ ieq (rv1.val g) 1 = true := by
  obtain ⟨e5, e6, e7, e8, e9, e29, e30, e33, e34, e35, e36, e37, e38, e39, e48, e49, e71, e75, e76, e78, e79, e85, e87, e88, e91, _⟩ := eqs1 he
  obtain ⟨⟨b0, b1, b2⟩, b3, b4⟩ := hin
  have k5 : g 5 = o0 := by rw [e5, f0]; exact SX.wrap_small (by omega) (by omega)
  have k6 : g 6 = o1 := by rw [e6, f1]; exact SX.wrap_small (by omega) (by omega)
  have k7 : g 7 = o2 := by rw [e7, f2]; exact SX.wrap_small (by omega) (by omega)
  have k8 : g 8 = l := by rw [e8, f3]; exact SX.wrap_small (by omega) (by omega)
  have k9 : g 9 = a := by rw [e9, f4]; exact SX.wrap_small (by omega) (by omega)
  exact ⟨told1 (by omega) (by omega) (by omega) (by omega) (by omega) (by omega) (by omega) (by omega) (by omega) (by omega), round_eq e71 e75 e76 e78 e79 e85 e87 e88 e91⟩
theorem ok2 {g : Sg} {o0 o1 o2 l a : Int} (f0 : g 0 = o0) (f1 : g 1 = o1) (f2 : g 2 = o2) (f3 : g 3 = l) (f4 : g 4 = a) (hin : InR o0 o1 o2 l a) (h1 : 0 ≤ l) (h2 : l ≤ 449999999) (he : EqsP g ds2) : FactsOk g facts2 ∧ ieq (rv2.val g) 1 = true := by
  obtain ⟨e5, e6, e7, e8, e9, e29, e30, e33, e34, e35, e36, e37, e38, e39, e48, e49, e71, e75, e76, e78, e79, e85, e87, e88, e91, _⟩ := eqs2 he
  obtain ⟨⟨b0, b1, b2⟩, b3, b4⟩ := hin
  have k5 : g 5 = o0 := by rw [e5, f0]; exact SX.wrap_small (by omega) (by omega)
  have k6 : g 6 = o1 := by rw [e6, f1]; exact SX.wrap_small (by omega) (by omega)
  have k7 : g 7 = o2 := by rw [e7, f2]; exact SX.wrap_small (by omega) (by omega)
  have k8 : g 8 = l := by rw [e8, f3]; exact SX.wrap_small (by omega) (by omega)
  have k9 : g 9 = a := by rw [e9, f4]; exact SX.wrap_small (by omega) (by omega)
  exact ⟨told2 (by omega) (by omega) (by omega) (by omega) (by omega) (by omega) (by omega) (by omega) (by omega) (by omega), round_eq e71 e75 e76 e78 e79 e85 e87 e88 e91⟩
theorem ok3 {g : Sg} {o0 o1 o2 l a : Int} (f0 : g 0 = o0) (f1 : g 1 = o1) (f2 : g 2 = o2) (f3 : g 3 = l) (f4 : g 4 = a) (hin : InR o0 o1 o2 l a) (h1 : 450000000 ≤ l) (h2 : l ≤ 899999999) (he : EqsP g ds3) : FactsOk g facts3 ∧ ieq (rv3.val g) 1 = true := by
  obtain ⟨e5, e6, e7, e8, e9, e29, e30, e33, e34, e35, e36, e37, e38, e39, e48, e49, e71, e75, e76, e78, e79, e85, e87, e88, e91, _⟩ := eqs3 he
  obtain ⟨⟨b0, b1, b2⟩, b3, b4⟩ := hin
  have k5 : g 5 = o0 := by rw [e5, f0]; exact SX.wrap_small (by omega) (by omega)
  have k6 : g 6 = o1 := by rw [e6, f1]; exact SX.wrap_small (by omega) (by omega)
  have k7 : g 7 = o2 := by rw [e7, f2]; exact SX.wrap_small (by omega) (by omega)
  have k8 : g 8 = l := by rw [e8, f3]; exact SX.wrap_small (by omega) (by omega)
  have k9 : g 9 = a := by rw [e9, f4]; exact SX.wrap_small (by omega) (by omega)
  exact ⟨told3 (by omega) (by omega) (by omega) (by omega) (by omega) (by omega) (by omega) (by omega) (by omega) (by omega), round_eq e71 e75 e76 e78 e79 e85 e87 e88 e91⟩
theorem ok4 {g : Sg} {o0 o1 o2 l a : Int} (f0 : g 0 = o0) (f1 : g 1 = o1) (f2 : g 2 = o2) (f3 : g 3 = l) (f4 : g 4 = a) (hin : InR o0 o1 o2 l a) (h1 : 900000000 ≤ l) (h2 : l ≤ 900000000) (he : EqsP g ds4) : FactsOk g facts4 ∧ ieq (rv4.val g) 1 = true := by
  obtain ⟨e5, e6, e7, e8, e9, e29, e30, e33, e34, e35, e36, e37, e38, e39, e48, e49, e69, e73, e74, e76, e77, e83, e85, e86, e89, _⟩ := eqs4 he
  obtain ⟨⟨b0, b1, b2⟩, b3, b4⟩ := hin
  have k5 : g 5 = o0 := by rw [e5, f0]; exact SX.wrap_small (by omega) (by omega)
  have k6 : g 6 = o1 := by rw [e6, f1]; exact SX.wrap_small (by omega) (by omega)
  have k7 : g 7 = o2 := by rw [e7, f2]; exact SX.wrap_small (by omega) (by omega)
  have k8 : g 8 = l := by rw [e8, f3]; exact SX.wrap_small (by omega) (by omega)
  have k9 : g 9 = a := by rw [e9, f4]; exact SX.wrap_small (by omega) (by omega)
  exact ⟨told4 (by omega) (by omega) (by omega) (by omega) (by omega) (by omega) (by omega) (by omega) (by omega) (by omega), round_eq e69 e73 e74 e76 e77 e83 e85 e86 e89⟩
theorem three {us : List Value} (f : FitL [some .i64, some .i64, some .i64] us) : ∃ a b c, us = [.int .i64 a, .int .i64 b, .int .i64 c] ∧ (Lit.int .i64 a).wf = true ∧ (Lit.int .i64 b).wf = true ∧ (Lit.int .i64 c).wf = true := by
  rcases us with _ | ⟨x, _ | ⟨y, _ | ⟨z, _ | ⟨t, r⟩⟩⟩⟩
  · exact f.elim
  · exact f.2.elim
  · exact f.2.2.elim
  · obtain ⟨f1, f2, f3, _⟩ := f
    obtain ⟨a, rfl, wa⟩ := f1
    obtain ⟨b, rfl, wb⟩ := f2
    obtain ⟨c, rfl, wc⟩ := f3
    exact ⟨a, b, c, rfl, wa, wb, wc⟩
  · exact f.2.2.2.elim
theorem walk {us : List Value} {a3 a4 : Int} (f : FitL [some .i64, some .i64, some .i64] us) (w3 : (Lit.int .i64 a3).wf = true) (w4 : (Lit.int .i64 a4).wf = true) {W : World} (hL : laidMetH Tryd.prog EarthF.laidE W) :
    Calls Tryd.prog 6 #[.agg ⟨us⟩, .int .i64 a3, .int .i64 a4] W fun e w' => e = .returned (.bool true) ∧ RowKit.Below W.heap.size W w' := by
  obtain ⟨a0, a1, a2, rfl, w0, w1, w2⟩ := three f
  obtain ⟨hG, hT⟩ := EarthF.of_laid hL
  have v0 := wf_i64 w0
  have v1 := wf_i64 w1
  have v2 := wf_i64 w2
  have v3 := wf_i64 w3
  have v4 := wf_i64 w4
  have fit : FitAs W arsR [.agg ⟨[.int .i64 a0, .int .i64 a1, .int .i64 a2]⟩, .int .i64 a3, .int .i64 a4] [.int .i64 a0, .int .i64 a1, .int .i64 a2, .int .i64 a3, .int .i64 a4] :=
    ⟨[.int .i64 a0, .int .i64 a1, .int .i64 a2], _, rfl, ⟨rfl, f⟩, [.int .i64 a3], _, rfl, ⟨rfl, ⟨a3, rfl, w3⟩⟩, [.int .i64 a4], _, rfl, ⟨rfl, ⟨a4, rfl, w4⟩⟩, rfl⟩
  by_cases hin : InR a0 a1 a2 a3 a4
  · have b3 := hin.2.1
    by_cases h0 : a3 ≤ -450000001
    · exact law_fitG (all := [.int .i64 a0, .int .i64 a1, .int .i64 a2, .int .i64 a3, .int .i64 a4]) namesOk mixed (fun g => sumsW_ok g) ran0 (fun g hg he => ok0 (o0 := a0) (o1 := a1) (o2 := a2) (l := a3) (a := a4) (hg 0 (by decide)) (hg 1 (by decide)) (hg 2 (by decide)) (hg 3 (by decide)) (hg 4 (by decide)) hin (by omega) (by omega) he) fit hG hT
    by_cases h1 : a3 ≤ -1
    · exact law_fitG (all := [.int .i64 a0, .int .i64 a1, .int .i64 a2, .int .i64 a3, .int .i64 a4]) namesOk mixed (fun g => sumsW_ok g) ran1 (fun g hg he => ok1 (o0 := a0) (o1 := a1) (o2 := a2) (l := a3) (a := a4) (hg 0 (by decide)) (hg 1 (by decide)) (hg 2 (by decide)) (hg 3 (by decide)) (hg 4 (by decide)) hin (by omega) (by omega) he) fit hG hT
    by_cases h2 : a3 ≤ 449999999
    · exact law_fitG (all := [.int .i64 a0, .int .i64 a1, .int .i64 a2, .int .i64 a3, .int .i64 a4]) namesOk mixed (fun g => sumsW_ok g) ran2 (fun g hg he => ok2 (o0 := a0) (o1 := a1) (o2 := a2) (l := a3) (a := a4) (hg 0 (by decide)) (hg 1 (by decide)) (hg 2 (by decide)) (hg 3 (by decide)) (hg 4 (by decide)) hin (by omega) (by omega) he) fit hG hT
    by_cases h3 : a3 ≤ 899999999
    · exact law_fitG (all := [.int .i64 a0, .int .i64 a1, .int .i64 a2, .int .i64 a3, .int .i64 a4]) namesOk mixed (fun g => sumsW_ok g) ran3 (fun g hg he => ok3 (o0 := a0) (o1 := a1) (o2 := a2) (l := a3) (a := a4) (hg 0 (by decide)) (hg 1 (by decide)) (hg 2 (by decide)) (hg 3 (by decide)) (hg 4 (by decide)) hin (by omega) (by omega) he) fit hG hT
    exact law_fitG (all := [.int .i64 a0, .int .i64 a1, .int .i64 a2, .int .i64 a3, .int .i64 a4]) namesOk mixed (fun g => sumsW_ok g) ran4 (fun g hg he => ok4 (o0 := a0) (o1 := a1) (o2 := a2) (l := a3) (a := a4) (hg 0 (by decide)) (hg 1 (by decide)) (hg 2 (by decide)) (hg 3 (by decide)) (hg 4 (by decide)) hin (by omega) (by omega) he) fit hG hT
  · obtain ⟨j, hj, h0⟩ := splitR (g := fun i => [0, 0, 0, 0, 0, a0, a1, a2, a3, a4].getD i 0) hin
    have hfo : ∀ g : Sg, g 5 = a0 → g 6 = a1 → g 7 = a2 → g 8 = a3 → g 9 = a4 → FactsOk g (outR j) := fun g k5 k6 k7 k8 k9 => by
      refine facts_cong (fun i hi => ?_) (outR_names j hj) h0
      rcases (by omega : i = 5 ∨ i = 6 ∨ i = 7 ∨ i = 8 ∨ i = 9) with rfl | rfl | rfl | rfl | rfl <;> assumption
    refine law_fitG (all := [.int .i64 a0, .int .i64 a1, .int .i64 a2, .int .i64 a3, .int .i64 a4]) namesOk mixed (fun g => sumsW_ok g) (range_all ranO hj) (fun g hg he => ⟨?_, rfl⟩) fit hG hT
    obtain ⟨e5, e6, e7, e8, e9, _⟩ := he
    have k5 : g 5 = a0 := by rw [show g 5 = wrapF .i64 (g 0) from e5, hg 0 (by decide)]; exact SX.wrap_small v0.1 v0.2
    have k6 : g 6 = a1 := by rw [show g 6 = wrapF .i64 (g 1) from e6, hg 1 (by decide)]; exact SX.wrap_small v1.1 v1.2
    have k7 : g 7 = a2 := by rw [show g 7 = wrapF .i64 (g 2) from e7, hg 2 (by decide)]; exact SX.wrap_small v2.1 v2.2
    have k8 : g 8 = a3 := by rw [show g 8 = wrapF .i64 (g 3) from e8, hg 3 (by decide)]; exact SX.wrap_small v3.1 v3.2
    have k9 : g 9 = a4 := by rw [show g 9 = wrapF .i64 (g 4) from e9, hg 4 (by decide)]; exact SX.wrap_small v4.1 v4.2
    exact hfo g k5 k6 k7 k8 k9
end Go.Proofs.YtbpccdagmaiblaaDoor.earthRound
