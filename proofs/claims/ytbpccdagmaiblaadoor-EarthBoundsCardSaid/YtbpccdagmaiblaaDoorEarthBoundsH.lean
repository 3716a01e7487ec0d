/- astrolabelaw8.EarthBounds: all its cases. -/
import Derived.Test.YtbpccdagmaiblaaDoorEarthBoundsC
import Derived.Test.YtbpccdagmaiblaaDoorEarthN
import Derived.Test.YtbpccdagmaiblaaDoorEarthF
namespace Go.Proofs.YtbpccdagmaiblaaDoor.earthBounds
open Go SX Tr
theorem okB_all : ∀ r k, r < 5 → k < 7 → okB r k = true
  | 0, _, _, h => range_all c0 h
  | 1, _, _, h => range_all c1 h
  | 2, _, _, h => range_all c2 h
  | 3, _, _, h => range_all c3 h
  | 4, _, _, h => range_all c4 h
  | _ + 5, _, h, _ => absurd h (by omega)
theorem badF_names12 (j : Nat) (hj : j < 6) : namesIn 12 14 (badF 12 j) = true := by
  have h : (List.range 6).all (fun j => namesIn 12 14 (badF 12 j)) = true := by decide +kernel
  exact range_all h hj
theorem badF_names15 (j : Nat) (hj : j < 6) : namesIn 15 17 (badF 15 j) = true := by
  have h : (List.range 6).all (fun j => namesIn 15 17 (badF 15 j)) = true := by decide +kernel
  exact range_all h hj
theorem badO_names (j : Nat) (hj : j < 8) : namesIn 9 11 (badO 9 j) = true := by
  have h : (List.range 8).all (fun j => namesIn 9 11 (badO 9 j)) = true := by decide +kernel
  exact range_all h hj
theorem cellB_names (r k : Nat) (hr : r < 5) (hk : k < 7) : namesIn 12 14 (cellB r k) = true := by
  have h : (List.range 5).all (fun r => (List.range 7).all fun k => namesIn 12 14 (cellB r k)) = true := by decide +kernel
  exact range_all (range_all h hr) hk
theorem goodO_names : namesIn 9 11 (goodO 9) = true := by decide +kernel
theorem goodF_names12 : namesIn 12 14 (goodF 12) = true := by decide +kernel
theorem goodF_names15 : namesIn 15 17 (goodF 15) = true := by decide +kernel
theorem three {us : List Value} (f : FitL [some .i64, some .i64, some .i64] us) : ∃ a b c, us = [.int .i64 a, .int .i64 b, .int .i64 c] ∧ (Lit.int .i64 a).wf = true ∧ (Lit.int .i64 b).wf = true ∧ (Lit.int .i64 c).wf = true := by
  rcases us with _ | ⟨x, _ | ⟨y, _ | ⟨z, _ | ⟨t, r⟩⟩⟩⟩
  · exact f.elim
  · exact f.2.elim
  · exact f.2.2.elim
  · obtain ⟨f1, f2, f3, _⟩ := f
    obtain ⟨a, rfl, wa⟩ := f1
    obtain ⟨b, rfl, wb⟩ := f2
    obtain ⟨c, rfl, wc⟩ := f3
    exact ⟨a, b, c, rfl, wa, wb, wc⟩
  · exact f.2.2.2.elim
theorem conv9 {g : Sg} {a0 a1 a2 a3 a4 a5 a6 a7 a8 : Int} (v0 : -9223372036854775808 ≤ a0 ∧ a0 ≤ 9223372036854775807) (v1 : -9223372036854775808 ≤ a1 ∧ a1 ≤ 9223372036854775807) (v2 : -9223372036854775808 ≤ a2 ∧ a2 ≤ 9223372036854775807) (v3 : -9223372036854775808 ≤ a3 ∧ a3 ≤ 9223372036854775807) (v4 : -9223372036854775808 ≤ a4 ∧ a4 ≤ 9223372036854775807) (v5 : -9223372036854775808 ≤ a5 ∧ a5 ≤ 9223372036854775807) (v6 : -9223372036854775808 ≤ a6 ∧ a6 ≤ 9223372036854775807) (v7 : -9223372036854775808 ≤ a7 ∧ a7 ≤ 9223372036854775807) (v8 : -9223372036854775808 ≤ a8 ∧ a8 ≤ 9223372036854775807)
    (hg : ∀ j, j < arSize arsB → g j = sgOf [.int .i64 a0, .int .i64 a1, .int .i64 a2, .int .i64 a3, .int .i64 a4, .int .i64 a5, .int .i64 a6, .int .i64 a7, .int .i64 a8] j) {r : Defs} (he : EqsP g (dsB ++ r)) : (g 9 = a0 ∧ g 10 = a1 ∧ g 11 = a2 ∧ g 12 = a3 ∧ g 13 = a4 ∧ g 14 = a5 ∧ g 15 = a6 ∧ g 16 = a7 ∧ g 17 = a8) ∧ EqsP g r := by
  obtain ⟨e9, e10, e11, e12, e13, e14, e15, e16, e17, er⟩ := he
  refine ⟨⟨?_, ?_, ?_, ?_, ?_, ?_, ?_, ?_, ?_⟩, er⟩
  · rw [show g 9 = wrapF .i64 (g 0) from e9, hg 0 (by decide)]; exact SX.wrap_small v0.1 v0.2
  · rw [show g 10 = wrapF .i64 (g 1) from e10, hg 1 (by decide)]; exact SX.wrap_small v1.1 v1.2
  · rw [show g 11 = wrapF .i64 (g 2) from e11, hg 2 (by decide)]; exact SX.wrap_small v2.1 v2.2
  · rw [show g 12 = wrapF .i64 (g 3) from e12, hg 3 (by decide)]; exact SX.wrap_small v3.1 v3.2
  · rw [show g 13 = wrapF .i64 (g 4) from e13, hg 4 (by decide)]; exact SX.wrap_small v4.1 v4.2
  · rw [show g 14 = wrapF .i64 (g 5) from e14, hg 5 (by decide)]; exact SX.wrap_small v5.1 v5.2
  · rw [show g 15 = wrapF .i64 (g 6) from e15, hg 6 (by decide)]; exact SX.wrap_small v6.1 v6.2
  · rw [show g 16 = wrapF .i64 (g 7) from e16, hg 7 (by decide)]; exact SX.wrap_small v7.1 v7.2
  · rw [show g 17 = wrapF .i64 (g 8) from e17, hg 8 (by decide)]; exact SX.wrap_small v8.1 v8.2
theorem root_in {g : Sg} (he : EqsP g dsN) : FactsOk g rootB := by
  obtain ⟨e25, e26, e31, e32, e33, e34, _⟩ := he
  have e26' : g 26 = sinF (g 25) := e26
  have b := sinF_bd (g 25)
  rw [← e26'] at b
  have e33' : g 33 = -1 * g 32 + 1073741824 := e33
  obtain ⟨⟨r1, r2⟩, _⟩ := scale_n (s := g 26) (m0 := g 31) (m1 := g 32) (w := g 33) (r := g 34) b.1 b.2 e31 e32 e33' e34 rfl rfl rfl
  exact ⟨fact_lt (decide_eq_true (by show (1070000000 : Int) < g 34; omega)), fact_lt (decide_eq_true (by show g 34 < (1073741830 : Int); omega)), trivial⟩
theorem walk {us ts vs : List Value} (f : FitL [some .i64, some .i64, some .i64] us) (k : FitL [some .i64, some .i64, some .i64] ts) (h : FitL [some .i64, some .i64, some .i64] vs) {W : World} (hL : laidMetH Tryd.prog EarthF.laidE W) :
    Calls Tryd.prog 7 #[.agg ⟨us⟩, .agg ⟨ts⟩, .agg ⟨vs⟩] W fun e w' => e = .returned (.bool true) ∧ RowKit.Below W.heap.size W w' := by
  obtain ⟨a0, a1, a2, rfl, w0, w1, w2⟩ := three f
  obtain ⟨a3, a4, a5, rfl, w3, w4, w5⟩ := three k
  obtain ⟨a6, a7, a8, rfl, w6, w7, w8⟩ := three h
  obtain ⟨hG, hT⟩ := EarthF.of_laid hL
  have v0 := wf_i64 w0
  have v1 := wf_i64 w1
  have v2 := wf_i64 w2
  have v3 := wf_i64 w3
  have v4 := wf_i64 w4
  have v5 := wf_i64 w5
  have v6 := wf_i64 w6
  have v7 := wf_i64 w7
  have v8 := wf_i64 w8
  have fit : FitAs W arsB [.agg ⟨[.int .i64 a0, .int .i64 a1, .int .i64 a2]⟩, .agg ⟨[.int .i64 a3, .int .i64 a4, .int .i64 a5]⟩, .agg ⟨[.int .i64 a6, .int .i64 a7, .int .i64 a8]⟩] [.int .i64 a0, .int .i64 a1, .int .i64 a2, .int .i64 a3, .int .i64 a4, .int .i64 a5, .int .i64 a6, .int .i64 a7, .int .i64 a8] :=
    ⟨[.int .i64 a0, .int .i64 a1, .int .i64 a2], _, rfl, ⟨rfl, f⟩, [.int .i64 a3, .int .i64 a4, .int .i64 a5], _, rfl, ⟨rfl, k⟩, [.int .i64 a6, .int .i64 a7, .int .i64 a8], _, rfl, ⟨rfl, h⟩, rfl⟩
  have go : ∀ (r : Defs) (fs : Fac), runB (dsB ++ r) fs = true → (∀ g : Sg, (g 9 = a0 ∧ g 10 = a1 ∧ g 11 = a2 ∧ g 12 = a3 ∧ g 13 = a4 ∧ g 14 = a5 ∧ g 15 = a6 ∧ g 16 = a7 ∧ g 17 = a8) → EqsP g r → FactsOk g fs) →
      Calls Tryd.prog 7 ⟨[.agg ⟨[.int .i64 a0, .int .i64 a1, .int .i64 a2]⟩, .agg ⟨[.int .i64 a3, .int .i64 a4, .int .i64 a5]⟩, .agg ⟨[.int .i64 a6, .int .i64 a7, .int .i64 a8]⟩]⟩ W fun e w' => e = .returned (.bool true) ∧ RowKit.Below W.heap.size W w' := fun r fs hr hf =>
    law_fitG (all := [.int .i64 a0, .int .i64 a1, .int .i64 a2, .int .i64 a3, .int .i64 a4, .int .i64 a5, .int .i64 a6, .int .i64 a7, .int .i64 a8]) namesOk mixed (fun g => sumsV_ok g) hr (fun g hg he => by
      obtain ⟨c, er⟩ := conv9 v0 v1 v2 v3 v4 v5 v6 v7 v8 hg he
      exact ⟨hf g c er, rfl⟩) fit hG hT
  let q : Sg := fun i => [0, 0, 0, 0, 0, 0, 0, 0, 0, a0, a1, a2, a3, a4, a5, a6, a7, a8].getD i 0
  have cO : ∀ {l : Fac}, namesIn 9 11 l = true → FactsOk q l → ∀ g : Sg, (g 9 = a0 ∧ g 10 = a1 ∧ g 11 = a2 ∧ g 12 = a3 ∧ g 13 = a4 ∧ g 14 = a5 ∧ g 15 = a6 ∧ g 16 = a7 ∧ g 17 = a8) → FactsOk g l := fun {l} hn hq g ⟨k9, k10, k11, _⟩ =>
    facts_cong (fun i hi => by rcases (by omega : i = 9 ∨ i = 10 ∨ i = 11) with rfl | rfl | rfl <;> assumption) hn hq
  have cP : ∀ {l : Fac}, namesIn 12 14 l = true → FactsOk q l → ∀ g : Sg, (g 9 = a0 ∧ g 10 = a1 ∧ g 11 = a2 ∧ g 12 = a3 ∧ g 13 = a4 ∧ g 14 = a5 ∧ g 15 = a6 ∧ g 16 = a7 ∧ g 17 = a8) → FactsOk g l := fun {l} hn hq g ⟨_, _, _, k12, k13, k14, _⟩ =>
    facts_cong (fun i hi => by rcases (by omega : i = 12 ∨ i = 13 ∨ i = 14) with rfl | rfl | rfl <;> assumption) hn hq
  have cQ : ∀ {l : Fac}, namesIn 15 17 l = true → FactsOk q l → ∀ g : Sg, (g 9 = a0 ∧ g 10 = a1 ∧ g 11 = a2 ∧ g 12 = a3 ∧ g 13 = a4 ∧ g 14 = a5 ∧ g 15 = a6 ∧ g 16 = a7 ∧ g 17 = a8) → FactsOk g l := fun {l} hn hq g ⟨_, _, _, _, _, _, k15, k16, k17⟩ =>
    facts_cong (fun i hi => by rcases (by omega : i = 15 ∨ i = 16 ∨ i = 17) with rfl | rfl | rfl <;> assumption) hn hq
  rcases originF (g := q) 9 with ⟨j, hj, ho⟩ | ho
  · exact go [] _ (range_all okO hj) fun g hg _ => cO (badO_names j hj) ho g hg
  rcases placeF (g := q) 12 with ⟨i, hi, hp⟩ | ⟨h1, h2, h3⟩
  · exact go [] _ (range_all okP hi) fun g hg _ => facts_app (cO goodO_names ho g hg) (cP (badF_names12 i hi) hp g hg)
  have hp : FactsOk q (goodF 12) := facts_app (inF_ok h1.1 h1.2) (facts_app (inF_ok h2.1 h2.2) (inF_ok h3.1 h3.2))
  rcases placeF (g := q) 15 with ⟨i, hi, hq⟩ | ⟨q1, q2, q3⟩
  · exact go [] _ (range_all okQ hi) fun g hg _ => facts_app (cO goodO_names ho g hg) (facts_app (cP goodF_names12 hp g hg) (cQ (badF_names15 i hi) hq g hg))
  have hq : FactsOk q (goodF 15) := facts_app (inF_ok q1.1 q1.2) (facts_app (inF_ok q2.1 q2.2) (inF_ok q3.1 q3.2))
  obtain ⟨r, hr, hrow⟩ := rowF_ok (g := q) (n := 12) h1.1 h1.2
  obtain ⟨c, hc, hcol⟩ := colF_ok (g := q) (n := 13) h2.1 h2.2
  have hcell : FactsOk q (cellB r c) := facts_app hrow (facts_app hcol (inF_ok h3.1 h3.2))
  exact go dsN _ (okB_all r c hr hc) fun g hg er => facts_app (cO goodO_names ho g hg) (facts_app (cP (cellB_names r c hr hc) hcell g hg) (facts_app (cQ goodF_names15 hq g hg) (root_in er)))
end Go.Proofs.YtbpccdagmaiblaaDoor.earthBounds
