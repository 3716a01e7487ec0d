/- astrolabelaw8.EarthSays: all its cases. -/
import Derived.Test.YtbpccdagmaiblaaDoorEarthSaysA
import Derived.Test.YtbpccdagmaiblaaDoorEarthSaysC0
import Derived.Test.YtbpccdagmaiblaaDoorEarthSaysC1
import Derived.Test.YtbpccdagmaiblaaDoorEarthSaysC2
import Derived.Test.YtbpccdagmaiblaaDoorEarthSaysC3
import Derived.Test.YtbpccdagmaiblaaDoorEarthSaysC4
import Derived.Test.YtbpccdagmaiblaaDoorEarthF
namespace Go.Proofs.YtbpccdagmaiblaaDoor.earthSays
open Go SX
theorem okC_all : ∀ r k, r < 5 → k < 7 → okC r k = true
  | 0, 0, _, _ => c00
  | 0, 1, _, _ => c01
  | 0, 2, _, _ => c02
  | 0, 3, _, _ => c03
  | 0, 4, _, _ => c04
  | 0, 5, _, _ => c05
  | 0, 6, _, _ => c06
  | 1, 0, _, _ => c10
  | 1, 1, _, _ => c11
  | 1, 2, _, _ => c12
  | 1, 3, _, _ => c13
  | 1, 4, _, _ => c14
  | 1, 5, _, _ => c15
  | 1, 6, _, _ => c16
  | 2, 0, _, _ => c20
  | 2, 1, _, _ => c21
  | 2, 2, _, _ => c22
  | 2, 3, _, _ => c23
  | 2, 4, _, _ => c24
  | 2, 5, _, _ => c25
  | 2, 6, _, _ => c26
  | 3, 0, _, _ => c30
  | 3, 1, _, _ => c31
  | 3, 2, _, _ => c32
  | 3, 3, _, _ => c33
  | 3, 4, _, _ => c34
  | 3, 5, _, _ => c35
  | 3, 6, _, _ => c36
  | 4, 0, _, _ => c40
  | 4, 1, _, _ => c41
  | 4, 2, _, _ => c42
  | 4, 3, _, _ => c43
  | 4, 4, _, _ => c44
  | 4, 5, _, _ => c45
  | 4, 6, _, _ => c46
  | 0, _ + 7, _, h => absurd h (by omega)
  | 1, _ + 7, _, h => absurd h (by omega)
  | 2, _ + 7, _, h => absurd h (by omega)
  | 3, _ + 7, _, h => absurd h (by omega)
  | 4, _ + 7, _, h => absurd h (by omega)
  | _ + 5, _, h, _ => absurd h (by omega)
theorem okA_all : ∀ i, i < 6 → okA i = true
  | 0, _ => a0
  | 1, _ => a1
  | 2, _ => a2
  | 3, _ => a3
  | 4, _ => a4
  | 5, _ => a5
  | _ + 6, h => absurd h (by omega)
theorem badF_names (n j : Nat) (hj : j < 6) (hn : n = 9 ∨ n = 6) : namesIn n (n + 2) (badF n j) = true := by
  rcases hn with rfl | rfl
  · have h : (List.range 6).all (fun j => namesIn 9 11 (badF 9 j)) = true := by decide +kernel
    exact range_all h hj
  · have h : (List.range 6).all (fun j => namesIn 6 8 (badF 6 j)) = true := by decide +kernel
    exact range_all h hj
theorem badO_names (j : Nat) (hj : j < 8) : namesIn 6 8 (badO 6 j) = true := by
  have h : (List.range 8).all (fun j => namesIn 6 8 (badO 6 j)) = true := by decide +kernel
  exact range_all h hj
theorem cellP_names (r k : Nat) (hr : r < 5) (hk : k < 7) : namesIn 9 11 (cellP r k) = true := by
  have h : (List.range 5).all (fun r => (List.range 7).all fun k => namesIn 9 11 (cellP r k)) = true := by decide +kernel
  exact range_all (range_all h hr) hk
theorem goodO_names : namesIn 6 8 (goodO 6) = true := by decide +kernel
theorem three {us : List Value} (f : FitL [some .i64, some .i64, some .i64] us) : ∃ a b c, us = [.int .i64 a, .int .i64 b, .int .i64 c] ∧ (Lit.int .i64 a).wf = true ∧ (Lit.int .i64 b).wf = true ∧ (Lit.int .i64 c).wf = true := by
  rcases us with _ | ⟨x, _ | ⟨y, _ | ⟨z, _ | ⟨t, r⟩⟩⟩⟩
  · exact f.elim
  · exact f.2.elim
  · exact f.2.2.elim
  · obtain ⟨f1, f2, f3, _⟩ := f
    obtain ⟨a, rfl, wa⟩ := f1
    obtain ⟨b, rfl, wb⟩ := f2
    obtain ⟨c, rfl, wc⟩ := f3
    exact ⟨a, b, c, rfl, wa, wb, wc⟩
  · exact f.2.2.2.elim
/-- What the names of the arguments stand for. -/
theorem conv6 {g : Sg} {a0 a1 a2 a3 a4 a5 : Int} (v0 : -9223372036854775808 ≤ a0 ∧ a0 ≤ 9223372036854775807) (v1 : -9223372036854775808 ≤ a1 ∧ a1 ≤ 9223372036854775807) (v2 : -9223372036854775808 ≤ a2 ∧ a2 ≤ 9223372036854775807) (v3 : -9223372036854775808 ≤ a3 ∧ a3 ≤ 9223372036854775807) (v4 : -9223372036854775808 ≤ a4 ∧ a4 ≤ 9223372036854775807) (v5 : -9223372036854775808 ≤ a5 ∧ a5 ≤ 9223372036854775807)
    (hg : ∀ j, j < arSize arsE → g j = sgOf [.int .i64 a0, .int .i64 a1, .int .i64 a2, .int .i64 a3, .int .i64 a4, .int .i64 a5] j) {r : Defs} (he : EqsP g (dsE ++ r)) : (g 6 = a0 ∧ g 7 = a1 ∧ g 8 = a2 ∧ g 9 = a3 ∧ g 10 = a4 ∧ g 11 = a5) ∧ EqsP g r := by
  obtain ⟨e6, e7, e8, e9, e10, e11, er⟩ := he
  refine ⟨⟨?_, ?_, ?_, ?_, ?_, ?_⟩, er⟩
  · rw [show g 6 = wrapF .i64 (g 0) from e6, hg 0 (by decide)]; exact SX.wrap_small v0.1 v0.2
  · rw [show g 7 = wrapF .i64 (g 1) from e7, hg 1 (by decide)]; exact SX.wrap_small v1.1 v1.2
  · rw [show g 8 = wrapF .i64 (g 2) from e8, hg 2 (by decide)]; exact SX.wrap_small v2.1 v2.2
  · rw [show g 9 = wrapF .i64 (g 3) from e9, hg 3 (by decide)]; exact SX.wrap_small v3.1 v3.2
  · rw [show g 10 = wrapF .i64 (g 4) from e10, hg 4 (by decide)]; exact SX.wrap_small v4.1 v4.2
  · rw [show g 11 = wrapF .i64 (g 5) from e11, hg 5 (by decide)]; exact SX.wrap_small v5.1 v5.2
theorem walk {us vs : List Value} (f : FitL [some .i64, some .i64, some .i64] us) (h : FitL [some .i64, some .i64, some .i64] vs) {W : World} (hL : laidMetH Tryd.prog EarthF.laidE W) :
    Calls Tryd.prog 4 #[.agg ⟨us⟩, .agg ⟨vs⟩] W fun e w' => e = .returned (.bool true) ∧ RowKit.Below W.heap.size W w' := by
  obtain ⟨a0, a1, a2, rfl, w0, w1, w2⟩ := three f
  obtain ⟨a3, a4, a5, rfl, w3, w4, w5⟩ := three h
  obtain ⟨hG, hT⟩ := EarthF.of_laid hL
  have v0 := wf_i64 w0
  have v1 := wf_i64 w1
  have v2 := wf_i64 w2
  have v3 := wf_i64 w3
  have v4 := wf_i64 w4
  have v5 := wf_i64 w5
  have fit : FitAs W arsE [.agg ⟨[.int .i64 a0, .int .i64 a1, .int .i64 a2]⟩, .agg ⟨[.int .i64 a3, .int .i64 a4, .int .i64 a5]⟩] [.int .i64 a0, .int .i64 a1, .int .i64 a2, .int .i64 a3, .int .i64 a4, .int .i64 a5] :=
    ⟨[.int .i64 a0, .int .i64 a1, .int .i64 a2], _, rfl, ⟨rfl, f⟩, [.int .i64 a3, .int .i64 a4, .int .i64 a5], _, rfl, ⟨rfl, h⟩, rfl⟩
  -- a run whose facts hang on the arguments alone
  have go : ∀ fs : Fac, runD dsE fs = true → (∀ g : Sg, g 6 = a0 ∧ g 7 = a1 ∧ g 8 = a2 ∧ g 9 = a3 ∧ g 10 = a4 ∧ g 11 = a5 → FactsOk g fs) →
      Calls Tryd.prog 4 ⟨[.agg ⟨[.int .i64 a0, .int .i64 a1, .int .i64 a2]⟩, .agg ⟨[.int .i64 a3, .int .i64 a4, .int .i64 a5]⟩]⟩ W fun e w' => e = .returned (.bool true) ∧ RowKit.Below W.heap.size W w' := fun fs hr hf =>
    law_fitG (all := [.int .i64 a0, .int .i64 a1, .int .i64 a2, .int .i64 a3, .int .i64 a4, .int .i64 a5]) namesOk mixed (fun g => sumsV_ok g) hr (fun g hg he => ⟨hf g (conv6 v0 v1 v2 v3 v4 v5 hg (r := []) he).1, rfl⟩) fit hG hT
  let q : Sg := fun i => [0, 0, 0, 0, 0, 0, a0, a1, a2, a3, a4, a5].getD i 0
  have cO : ∀ {l : Fac}, namesIn 6 8 l = true → FactsOk q l → ∀ g : Sg, g 6 = a0 ∧ g 7 = a1 ∧ g 8 = a2 ∧ g 9 = a3 ∧ g 10 = a4 ∧ g 11 = a5 → FactsOk g l := fun {l} hn hq g ⟨k6, k7, k8, _⟩ =>
    facts_cong (fun i hi => by rcases (by omega : i = 6 ∨ i = 7 ∨ i = 8) with rfl | rfl | rfl <;> assumption) hn hq
  have cP : ∀ {l : Fac}, namesIn 9 11 l = true → FactsOk q l → ∀ g : Sg, g 6 = a0 ∧ g 7 = a1 ∧ g 8 = a2 ∧ g 9 = a3 ∧ g 10 = a4 ∧ g 11 = a5 → FactsOk g l := fun {l} hn hq g ⟨_, _, _, k9, k10, k11⟩ =>
    facts_cong (fun i hi => by rcases (by omega : i = 9 ∨ i = 10 ∨ i = 11) with rfl | rfl | rfl <;> assumption) hn hq
  rcases placeF (g := q) 9 with ⟨i, hi, hp⟩ | ⟨h1, h2, h3⟩
  · have k := okA_all i hi
    unfold okA at k
    rw [Bool.and_eq_true] at k
    rcases originF (g := q) 6 with ⟨j, hj, ho⟩ | ho
    · exact go _ (range_all k.1 hj) fun g hg => facts_app (cP (badF_names 9 i hi (.inl rfl)) hp g hg) (cO (badO_names j hj) ho g hg)
    · exact go _ k.2 fun g hg => facts_app (cP (badF_names 9 i hi (.inl rfl)) hp g hg) (cO goodO_names ho g hg)
  · obtain ⟨r, hr, hrow⟩ := rowF_ok (g := q) (n := 9) h1.1 h1.2
    obtain ⟨c, hc, hcol⟩ := colF_ok (g := q) (n := 10) h2.1 h2.2
    have hcell : FactsOk q (cellP r c) := facts_app hrow (facts_app hcol (inF_ok h3.1 h3.2))
    have k := okC_all r c hr hc
    unfold okC at k
    rw [Bool.and_eq_true] at k
    rcases originF (g := q) 6 with ⟨j, hj, ho⟩ | ho
    · exact go _ (range_all k.1 hj) fun g hg => facts_app (cP (cellP_names r c hr hc) hcell g hg) (cO (badO_names j hj) ho g hg)
    · have nl : c < 3 → a4 - a1 ≤ 1800000000 := fun h => by
        obtain ⟨_, _, q3, _⟩ := ho
        have h1 : -1800000000 ≤ a1 := fact_ge q3
        rcases (by omega : c = 0 ∨ c = 1 ∨ c = 2) with rfl | rfl | rfl
        · have h2 : a4 ≤ -1200000001 := fact_le hcol.2.1
          omega
        · have h2 : a4 ≤ -600000001 := fact_le hcol.2.1
          omega
        · have h2 : a4 ≤ -1 := fact_le hcol.2.1
          omega
      have lon : ∃ j, j < 3 ∧ (Nat.blt c 3 && Nat.beq j 0) = false ∧ ∀ g : Sg, g (lonN r c) = a4 - a1 → FactsOk g (lonC (lonN r c) j) := by
        by_cases l0 : 1800000000 < a4 - a1
        · refine ⟨0, by decide, ?_, fun g e => highF_ok (by rw [e]; exact l0)⟩
          rw [nblt, decide_eq_false (fun h => absurd (nl h) (by omega)), Bool.false_and]
        by_cases l1 : a4 - a1 < -1799999999
        · exact ⟨1, by decide, Bool.and_false _, fun g e => lowF_ok (by rw [e]; exact l1)⟩
        · exact ⟨2, by decide, Bool.and_false _, fun g e => inF_ok (by rw [e]; omega) (by rw [e]; omega)⟩
      obtain ⟨j, hj, hn, hl⟩ := lon
      have kr := range_all k.2 hj
      rw [hn, Bool.false_or] at kr
      refine law_fitG (all := [.int .i64 a0, .int .i64 a1, .int .i64 a2, .int .i64 a3, .int .i64 a4, .int .i64 a5]) namesOk mixed (fun g => sumsV_ok g) kr (fun g hg he => ⟨?_, rfl⟩) fit hG hT
      obtain ⟨hc6, er, _⟩ := conv6 v0 v1 v2 v3 v4 v5 hg he
      have el : g (lonN r c) = a4 - a1 := by
        have er : g (lonN r c) = (-1) * g 7 + ((1) * g 10 + 0) := er
        rw [er, hc6.2.1, hc6.2.2.2.2.1]
        omega
      exact facts_app (cP (cellP_names r c hr hc) hcell g hc6) (facts_app (cO goodO_names ho g hc6) (hl g el))
end Go.Proofs.YtbpccdagmaiblaaDoor.earthSays
