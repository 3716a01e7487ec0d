/- Proved here: the angle of a point turns with its point: mirrored, turned by a quarter or a half, scaled by two; no condition (the law asks of numbers within 2^58 that are not nought). -/
import Derived.Test.YtchdlanichhkcaaSxI2
import Derived.Test.YtchdlanichhkcaaTrigTurnsC0
import Derived.Test.YtchdlanichhkcaaTrigTurnsC1
import Derived.Test.YtchdlanichhkcaaTrigTurnsC2
import Derived.Test.YtchdlanichhkcaaAwakes
namespace Go.Proofs.Ytchdlanichhkcaa.trigTurns
open Go.ChangeShapes Go.WideShapes Go.ChangeAt Go.RowKit Go.Joins
theorem facts0_ok (g : SX.Sg) (a0 a1 : Int) (e0 : g 2 = a0) (_e1 : g 3 = a1) (_m0 : g 4 = -a0) (_m1 : g 5 = -a1) (h0 : a0 < (-288230376151711744 : Int)) : ∀ c ∈ facts0, SX.ciOk g c :=
  SX.facts_all (show SX.FactsOk g facts0 from ⟨SX.fact_lt (decide_eq_true (show g 2 < (-288230376151711744 : Int) by rw [e0]; omega)), trivial⟩)
theorem facts1_ok (g : SX.Sg) (a0 a1 : Int) (e0 : g 2 = a0) (_e1 : g 3 = a1) (_m0 : g 4 = -a0) (_m1 : g 5 = -a1) (h0 : (288230376151711744 : Int) < a0) : ∀ c ∈ facts1, SX.ciOk g c :=
  SX.facts_all (show SX.FactsOk g facts1 from ⟨SX.fact_lt (decide_eq_true (show (288230376151711744 : Int) < g 2 by rw [e0]; omega)), trivial⟩)
theorem facts2_ok (g : SX.Sg) (a0 a1 : Int) (_e0 : g 2 = a0) (e1 : g 3 = a1) (_m0 : g 4 = -a0) (_m1 : g 5 = -a1) (h0 : a1 < (-288230376151711744 : Int)) : ∀ c ∈ facts2, SX.ciOk g c :=
  SX.facts_all (show SX.FactsOk g facts2 from ⟨SX.fact_lt (decide_eq_true (show g 3 < (-288230376151711744 : Int) by rw [e1]; omega)), trivial⟩)
theorem facts3_ok (g : SX.Sg) (a0 a1 : Int) (_e0 : g 2 = a0) (e1 : g 3 = a1) (_m0 : g 4 = -a0) (_m1 : g 5 = -a1) (h0 : (288230376151711744 : Int) < a1) : ∀ c ∈ facts3, SX.ciOk g c :=
  SX.facts_all (show SX.FactsOk g facts3 from ⟨SX.fact_lt (decide_eq_true (show (288230376151711744 : Int) < g 3 by rw [e1]; omega)), trivial⟩)
theorem facts4_ok (g : SX.Sg) (a0 a1 : Int) (e0 : g 2 = a0) (_e1 : g 3 = a1) (_m0 : g 4 = -a0) (_m1 : g 5 = -a1) (h0 : a0 = (0 : Int)) : ∀ c ∈ facts4, SX.ciOk g c :=
  SX.facts_all (show SX.FactsOk g facts4 from ⟨SX.fact_eq (decide_eq_true (show g 2 = (0 : Int) by rw [e0]; omega)), trivial⟩)
theorem facts5_ok (g : SX.Sg) (a0 a1 : Int) (_e0 : g 2 = a0) (e1 : g 3 = a1) (_m0 : g 4 = -a0) (_m1 : g 5 = -a1) (h0 : a1 = (0 : Int)) : ∀ c ∈ facts5, SX.ciOk g c :=
  SX.facts_all (show SX.FactsOk g facts5 from ⟨SX.fact_eq (decide_eq_true (show g 3 = (0 : Int) by rw [e1]; omega)), trivial⟩)
theorem facts6_ok (g : SX.Sg) (a0 a1 : Int) (e0 : g 2 = a0) (e1 : g 3 = a1) (_m0 : g 4 = -a0) (_m1 : g 5 = -a1) (h0 : ¬ (a0 < (-288230376151711744 : Int))) (h1 : ¬ ((288230376151711744 : Int) < a0)) (h2 : ¬ (a1 < (-288230376151711744 : Int))) (h3 : ¬ ((288230376151711744 : Int) < a1)) (h4 : (0 : Int) < a0) (h5 : (0 : Int) < a1) (h6 : a0 < a1) : ∀ c ∈ facts6, SX.ciOk g c :=
  SX.facts_all (show SX.FactsOk g facts6 from ⟨SX.fact_lt (decide_eq_false (show ¬ (g 2 < (-288230376151711744 : Int)) by rw [e0]; omega)), SX.fact_lt (decide_eq_false (show ¬ ((288230376151711744 : Int) < g 2) by rw [e0]; omega)), SX.fact_lt (decide_eq_false (show ¬ (g 3 < (-288230376151711744 : Int)) by rw [e1]; omega)), SX.fact_lt (decide_eq_false (show ¬ ((288230376151711744 : Int) < g 3) by rw [e1]; omega)), SX.fact_lt (decide_eq_true (show (0 : Int) < g 2 by rw [e0]; omega)), SX.fact_lt (decide_eq_true (show (0 : Int) < g 3 by rw [e1]; omega)), SX.fact_lt (decide_eq_true (show g 2 < g 3 by rw [e0, e1]; omega)), trivial⟩)
theorem facts7_ok (g : SX.Sg) (a0 a1 : Int) (e0 : g 2 = a0) (e1 : g 3 = a1) (_m0 : g 4 = -a0) (_m1 : g 5 = -a1) (h0 : ¬ (a0 < (-288230376151711744 : Int))) (h1 : ¬ ((288230376151711744 : Int) < a0)) (h2 : ¬ (a1 < (-288230376151711744 : Int))) (h3 : ¬ ((288230376151711744 : Int) < a1)) (h4 : (0 : Int) < a0) (h5 : (0 : Int) < a1) (h6 : a1 < a0) : ∀ c ∈ facts7, SX.ciOk g c :=
  SX.facts_all (show SX.FactsOk g facts7 from ⟨SX.fact_lt (decide_eq_false (show ¬ (g 2 < (-288230376151711744 : Int)) by rw [e0]; omega)), SX.fact_lt (decide_eq_false (show ¬ ((288230376151711744 : Int) < g 2) by rw [e0]; omega)), SX.fact_lt (decide_eq_false (show ¬ (g 3 < (-288230376151711744 : Int)) by rw [e1]; omega)), SX.fact_lt (decide_eq_false (show ¬ ((288230376151711744 : Int) < g 3) by rw [e1]; omega)), SX.fact_lt (decide_eq_true (show (0 : Int) < g 2 by rw [e0]; omega)), SX.fact_lt (decide_eq_true (show (0 : Int) < g 3 by rw [e1]; omega)), SX.fact_lt (decide_eq_true (show g 3 < g 2 by rw [e1, e0]; omega)), trivial⟩)
theorem facts8_ok (g : SX.Sg) (a0 a1 : Int) (e0 : g 2 = a0) (e1 : g 3 = a1) (_m0 : g 4 = -a0) (_m1 : g 5 = -a1) (h0 : ¬ (a0 < (-288230376151711744 : Int))) (h1 : ¬ ((288230376151711744 : Int) < a0)) (h2 : ¬ (a1 < (-288230376151711744 : Int))) (h3 : ¬ ((288230376151711744 : Int) < a1)) (h4 : (0 : Int) < a0) (h5 : (0 : Int) < a1) (h6 : ¬ (a0 < a1)) (h7 : ¬ (a1 < a0)) : ∀ c ∈ facts8, SX.ciOk g c :=
  SX.facts_all (show SX.FactsOk g facts8 from ⟨SX.fact_lt (decide_eq_false (show ¬ (g 2 < (-288230376151711744 : Int)) by rw [e0]; omega)), SX.fact_lt (decide_eq_false (show ¬ ((288230376151711744 : Int) < g 2) by rw [e0]; omega)), SX.fact_lt (decide_eq_false (show ¬ (g 3 < (-288230376151711744 : Int)) by rw [e1]; omega)), SX.fact_lt (decide_eq_false (show ¬ ((288230376151711744 : Int) < g 3) by rw [e1]; omega)), SX.fact_lt (decide_eq_true (show (0 : Int) < g 2 by rw [e0]; omega)), SX.fact_lt (decide_eq_true (show (0 : Int) < g 3 by rw [e1]; omega)), SX.fact_lt (decide_eq_false (show ¬ (g 2 < g 3) by rw [e0, e1]; omega)), SX.fact_lt (decide_eq_false (show ¬ (g 3 < g 2) by rw [e1, e0]; omega)), trivial⟩)
theorem facts9_ok (g : SX.Sg) (a0 a1 : Int) (e0 : g 2 = a0) (e1 : g 3 = a1) (_m0 : g 4 = -a0) (m1 : g 5 = -a1) (h0 : ¬ (a0 < (-288230376151711744 : Int))) (h1 : ¬ ((288230376151711744 : Int) < a0)) (h2 : ¬ (a1 < (-288230376151711744 : Int))) (h3 : ¬ ((288230376151711744 : Int) < a1)) (h4 : (0 : Int) < a0) (h5 : a1 < (0 : Int)) (h6 : a0 < -a1) : ∀ c ∈ facts9, SX.ciOk g c :=
  SX.facts_all (show SX.FactsOk g facts9 from ⟨SX.fact_lt (decide_eq_false (show ¬ (g 2 < (-288230376151711744 : Int)) by rw [e0]; omega)), SX.fact_lt (decide_eq_false (show ¬ ((288230376151711744 : Int) < g 2) by rw [e0]; omega)), SX.fact_lt (decide_eq_false (show ¬ (g 3 < (-288230376151711744 : Int)) by rw [e1]; omega)), SX.fact_lt (decide_eq_false (show ¬ ((288230376151711744 : Int) < g 3) by rw [e1]; omega)), SX.fact_lt (decide_eq_true (show (0 : Int) < g 2 by rw [e0]; omega)), SX.fact_lt (decide_eq_true (show g 3 < (0 : Int) by rw [e1]; omega)), SX.fact_lt (decide_eq_true (show g 2 < g 5 by rw [e0, m1]; omega)), trivial⟩)
theorem facts10_ok (g : SX.Sg) (a0 a1 : Int) (e0 : g 2 = a0) (e1 : g 3 = a1) (_m0 : g 4 = -a0) (m1 : g 5 = -a1) (h0 : ¬ (a0 < (-288230376151711744 : Int))) (h1 : ¬ ((288230376151711744 : Int) < a0)) (h2 : ¬ (a1 < (-288230376151711744 : Int))) (h3 : ¬ ((288230376151711744 : Int) < a1)) (h4 : (0 : Int) < a0) (h5 : a1 < (0 : Int)) (h6 : -a1 < a0) : ∀ c ∈ facts10, SX.ciOk g c :=
  SX.facts_all (show SX.FactsOk g facts10 from ⟨SX.fact_lt (decide_eq_false (show ¬ (g 2 < (-288230376151711744 : Int)) by rw [e0]; omega)), SX.fact_lt (decide_eq_false (show ¬ ((288230376151711744 : Int) < g 2) by rw [e0]; omega)), SX.fact_lt (decide_eq_false (show ¬ (g 3 < (-288230376151711744 : Int)) by rw [e1]; omega)), SX.fact_lt (decide_eq_false (show ¬ ((288230376151711744 : Int) < g 3) by rw [e1]; omega)), SX.fact_lt (decide_eq_true (show (0 : Int) < g 2 by rw [e0]; omega)), SX.fact_lt (decide_eq_true (show g 3 < (0 : Int) by rw [e1]; omega)), SX.fact_lt (decide_eq_true (show g 5 < g 2 by rw [m1, e0]; omega)), trivial⟩)
theorem facts11_ok (g : SX.Sg) (a0 a1 : Int) (e0 : g 2 = a0) (e1 : g 3 = a1) (_m0 : g 4 = -a0) (m1 : g 5 = -a1) (h0 : ¬ (a0 < (-288230376151711744 : Int))) (h1 : ¬ ((288230376151711744 : Int) < a0)) (h2 : ¬ (a1 < (-288230376151711744 : Int))) (h3 : ¬ ((288230376151711744 : Int) < a1)) (h4 : (0 : Int) < a0) (h5 : a1 < (0 : Int)) (h6 : ¬ (a0 < -a1)) (h7 : ¬ (-a1 < a0)) : ∀ c ∈ facts11, SX.ciOk g c :=
  SX.facts_all (show SX.FactsOk g facts11 from ⟨SX.fact_lt (decide_eq_false (show ¬ (g 2 < (-288230376151711744 : Int)) by rw [e0]; omega)), SX.fact_lt (decide_eq_false (show ¬ ((288230376151711744 : Int) < g 2) by rw [e0]; omega)), SX.fact_lt (decide_eq_false (show ¬ (g 3 < (-288230376151711744 : Int)) by rw [e1]; omega)), SX.fact_lt (decide_eq_false (show ¬ ((288230376151711744 : Int) < g 3) by rw [e1]; omega)), SX.fact_lt (decide_eq_true (show (0 : Int) < g 2 by rw [e0]; omega)), SX.fact_lt (decide_eq_true (show g 3 < (0 : Int) by rw [e1]; omega)), SX.fact_lt (decide_eq_false (show ¬ (g 2 < g 5) by rw [e0, m1]; omega)), SX.fact_lt (decide_eq_false (show ¬ (g 5 < g 2) by rw [m1, e0]; omega)), trivial⟩)
theorem facts12_ok (g : SX.Sg) (a0 a1 : Int) (e0 : g 2 = a0) (e1 : g 3 = a1) (m0 : g 4 = -a0) (_m1 : g 5 = -a1) (h0 : ¬ (a0 < (-288230376151711744 : Int))) (h1 : ¬ ((288230376151711744 : Int) < a0)) (h2 : ¬ (a1 < (-288230376151711744 : Int))) (h3 : ¬ ((288230376151711744 : Int) < a1)) (h4 : a0 < (0 : Int)) (h5 : (0 : Int) < a1) (h6 : -a0 < a1) : ∀ c ∈ facts12, SX.ciOk g c :=
  SX.facts_all (show SX.FactsOk g facts12 from ⟨SX.fact_lt (decide_eq_false (show ¬ (g 2 < (-288230376151711744 : Int)) by rw [e0]; omega)), SX.fact_lt (decide_eq_false (show ¬ ((288230376151711744 : Int) < g 2) by rw [e0]; omega)), SX.fact_lt (decide_eq_false (show ¬ (g 3 < (-288230376151711744 : Int)) by rw [e1]; omega)), SX.fact_lt (decide_eq_false (show ¬ ((288230376151711744 : Int) < g 3) by rw [e1]; omega)), SX.fact_lt (decide_eq_true (show g 2 < (0 : Int) by rw [e0]; omega)), SX.fact_lt (decide_eq_true (show (0 : Int) < g 3 by rw [e1]; omega)), SX.fact_lt (decide_eq_true (show g 4 < g 3 by rw [m0, e1]; omega)), trivial⟩)
theorem facts13_ok (g : SX.Sg) (a0 a1 : Int) (e0 : g 2 = a0) (e1 : g 3 = a1) (m0 : g 4 = -a0) (_m1 : g 5 = -a1) (h0 : ¬ (a0 < (-288230376151711744 : Int))) (h1 : ¬ ((288230376151711744 : Int) < a0)) (h2 : ¬ (a1 < (-288230376151711744 : Int))) (h3 : ¬ ((288230376151711744 : Int) < a1)) (h4 : a0 < (0 : Int)) (h5 : (0 : Int) < a1) (h6 : a1 < -a0) : ∀ c ∈ facts13, SX.ciOk g c :=
  SX.facts_all (show SX.FactsOk g facts13 from ⟨SX.fact_lt (decide_eq_false (show ¬ (g 2 < (-288230376151711744 : Int)) by rw [e0]; omega)), SX.fact_lt (decide_eq_false (show ¬ ((288230376151711744 : Int) < g 2) by rw [e0]; omega)), SX.fact_lt (decide_eq_false (show ¬ (g 3 < (-288230376151711744 : Int)) by rw [e1]; omega)), SX.fact_lt (decide_eq_false (show ¬ ((288230376151711744 : Int) < g 3) by rw [e1]; omega)), SX.fact_lt (decide_eq_true (show g 2 < (0 : Int) by rw [e0]; omega)), SX.fact_lt (decide_eq_true (show (0 : Int) < g 3 by rw [e1]; omega)), SX.fact_lt (decide_eq_true (show g 3 < g 4 by rw [e1, m0]; omega)), trivial⟩)
theorem facts14_ok (g : SX.Sg) (a0 a1 : Int) (e0 : g 2 = a0) (e1 : g 3 = a1) (m0 : g 4 = -a0) (_m1 : g 5 = -a1) (h0 : ¬ (a0 < (-288230376151711744 : Int))) (h1 : ¬ ((288230376151711744 : Int) < a0)) (h2 : ¬ (a1 < (-288230376151711744 : Int))) (h3 : ¬ ((288230376151711744 : Int) < a1)) (h4 : a0 < (0 : Int)) (h5 : (0 : Int) < a1) (h6 : ¬ (-a0 < a1)) (h7 : ¬ (a1 < -a0)) : ∀ c ∈ facts14, SX.ciOk g c :=
  SX.facts_all (show SX.FactsOk g facts14 from ⟨SX.fact_lt (decide_eq_false (show ¬ (g 2 < (-288230376151711744 : Int)) by rw [e0]; omega)), SX.fact_lt (decide_eq_false (show ¬ ((288230376151711744 : Int) < g 2) by rw [e0]; omega)), SX.fact_lt (decide_eq_false (show ¬ (g 3 < (-288230376151711744 : Int)) by rw [e1]; omega)), SX.fact_lt (decide_eq_false (show ¬ ((288230376151711744 : Int) < g 3) by rw [e1]; omega)), SX.fact_lt (decide_eq_true (show g 2 < (0 : Int) by rw [e0]; omega)), SX.fact_lt (decide_eq_true (show (0 : Int) < g 3 by rw [e1]; omega)), SX.fact_lt (decide_eq_false (show ¬ (g 4 < g 3) by rw [m0, e1]; omega)), SX.fact_lt (decide_eq_false (show ¬ (g 3 < g 4) by rw [e1, m0]; omega)), trivial⟩)
theorem facts15_ok (g : SX.Sg) (a0 a1 : Int) (e0 : g 2 = a0) (e1 : g 3 = a1) (m0 : g 4 = -a0) (m1 : g 5 = -a1) (h0 : ¬ (a0 < (-288230376151711744 : Int))) (h1 : ¬ ((288230376151711744 : Int) < a0)) (h2 : ¬ (a1 < (-288230376151711744 : Int))) (h3 : ¬ ((288230376151711744 : Int) < a1)) (h4 : a0 < (0 : Int)) (h5 : a1 < (0 : Int)) (h6 : -a0 < -a1) : ∀ c ∈ facts15, SX.ciOk g c :=
  SX.facts_all (show SX.FactsOk g facts15 from ⟨SX.fact_lt (decide_eq_false (show ¬ (g 2 < (-288230376151711744 : Int)) by rw [e0]; omega)), SX.fact_lt (decide_eq_false (show ¬ ((288230376151711744 : Int) < g 2) by rw [e0]; omega)), SX.fact_lt (decide_eq_false (show ¬ (g 3 < (-288230376151711744 : Int)) by rw [e1]; omega)), SX.fact_lt (decide_eq_false (show ¬ ((288230376151711744 : Int) < g 3) by rw [e1]; omega)), SX.fact_lt (decide_eq_true (show g 2 < (0 : Int) by rw [e0]; omega)), SX.fact_lt (decide_eq_true (show g 3 < (0 : Int) by rw [e1]; omega)), SX.fact_lt (decide_eq_true (show g 4 < g 5 by rw [m0, m1]; omega)), trivial⟩)
theorem facts16_ok (g : SX.Sg) (a0 a1 : Int) (e0 : g 2 = a0) (e1 : g 3 = a1) (m0 : g 4 = -a0) (m1 : g 5 = -a1) (h0 : ¬ (a0 < (-288230376151711744 : Int))) (h1 : ¬ ((288230376151711744 : Int) < a0)) (h2 : ¬ (a1 < (-288230376151711744 : Int))) (h3 : ¬ ((288230376151711744 : Int) < a1)) (h4 : a0 < (0 : Int)) (h5 : a1 < (0 : Int)) (h6 : -a1 < -a0) : ∀ c ∈ facts16, SX.ciOk g c :=
  SX.facts_all (show SX.FactsOk g facts16 from ⟨SX.fact_lt (decide_eq_false (show ¬ (g 2 < (-288230376151711744 : Int)) by rw [e0]; omega)), SX.fact_lt (decide_eq_false (show ¬ ((288230376151711744 : Int) < g 2) by rw [e0]; omega)), SX.fact_lt (decide_eq_false (show ¬ (g 3 < (-288230376151711744 : Int)) by rw [e1]; omega)), SX.fact_lt (decide_eq_false (show ¬ ((288230376151711744 : Int) < g 3) by rw [e1]; omega)), SX.fact_lt (decide_eq_true (show g 2 < (0 : Int) by rw [e0]; omega)), SX.fact_lt (decide_eq_true (show g 3 < (0 : Int) by rw [e1]; omega)), SX.fact_lt (decide_eq_true (show g 5 < g 4 by rw [m1, m0]; omega)), trivial⟩)
theorem facts17_ok (g : SX.Sg) (a0 a1 : Int) (e0 : g 2 = a0) (e1 : g 3 = a1) (m0 : g 4 = -a0) (m1 : g 5 = -a1) (h0 : ¬ (a0 < (-288230376151711744 : Int))) (h1 : ¬ ((288230376151711744 : Int) < a0)) (h2 : ¬ (a1 < (-288230376151711744 : Int))) (h3 : ¬ ((288230376151711744 : Int) < a1)) (h4 : a0 < (0 : Int)) (h5 : a1 < (0 : Int)) (h6 : ¬ (-a0 < -a1)) (h7 : ¬ (-a1 < -a0)) : ∀ c ∈ facts17, SX.ciOk g c :=
  SX.facts_all (show SX.FactsOk g facts17 from ⟨SX.fact_lt (decide_eq_false (show ¬ (g 2 < (-288230376151711744 : Int)) by rw [e0]; omega)), SX.fact_lt (decide_eq_false (show ¬ ((288230376151711744 : Int) < g 2) by rw [e0]; omega)), SX.fact_lt (decide_eq_false (show ¬ (g 3 < (-288230376151711744 : Int)) by rw [e1]; omega)), SX.fact_lt (decide_eq_false (show ¬ ((288230376151711744 : Int) < g 3) by rw [e1]; omega)), SX.fact_lt (decide_eq_true (show g 2 < (0 : Int) by rw [e0]; omega)), SX.fact_lt (decide_eq_true (show g 3 < (0 : Int) by rw [e1]; omega)), SX.fact_lt (decide_eq_false (show ¬ (g 4 < g 5) by rw [m0, m1]; omega)), SX.fact_lt (decide_eq_false (show ¬ (g 5 < g 4) by rw [m1, m0]; omega)), trivial⟩)
set_option maxHeartbeats 2000000 in
set_option maxRecDepth 100000 in
theorem lifted (os : Os) (started : os.Started) (H : Type) (enc : TypeId × Value → H) :
    ReturnsInHanded {} Try.checked os 10 .any (Rows.trigTurnsSpec.pre6 enc Try.prog Try.f10 Rows.trigTurnsRow.domain false) (Rows.trigTurnsSpec.post enc Try.prog Try.f10 false true false false) := by
  refine returnsInHanded_of_change (C := Try.checked) own_any started (by kernel_rfl) Try.func10
    (ChangeSpec.witness6 (enc := enc) (C := Try.checked) false ⟨#[], #[.int .i64 0, .int .i64 0], []⟩ 8 (by kernel_rfl) (by kernel_rfl) (by kernel_rfl) (by kernel_rfl)) ?_
  intro W base args ds gs before hval0 hW hcnd _
  have hval : ∀ (j : Nat) t v, Try.f10.params[j]? = some t → args[j]? = some v → Value.okWide Try.prog W .any base t v := hval0
  have hW' := hW
  obtain ⟨p, q, hA0, hV, rfl, hfz, hnd⟩ := hW
  have hA : DataW.TrodAll enc Try.prog W 0 (fun _ => true) true Try.f10.params.toList args.toList ds p := hA0
  rw [Try.params10] at hA hval
  obtain ⟨v0, vs0, d0, ds0, p0, q0, hargs, rfl, rfl, h0, r0⟩ := trodAll_cons hA
  obtain ⟨v1, vs1, d1, ds1, p1, q1, rfl, rfl, rfl, h1, r1⟩ := trodAll_cons r0
  obtain ⟨rfl, rfl, rfl⟩ := trodAll_nil r1
  obtain rfl : args = #[v0, v1] := by cases args; simp_all
  obtain ⟨rfl, rfl⟩ := trodVars_none hV
  obtain ⟨a0, rfl, _, _, w0⟩ := open_int Try.underlying2 (hval 0 2 v0 rfl rfl) h0
  obtain ⟨a1, rfl, _, _, w1⟩ := open_int Try.underlying2 (hval 1 2 v1 rfl rfl) h1
  clear hA0 hval0
  have v0 := wf_i64 w0
  have v1 := wf_i64 w1
  have k0 : SX.wrapF .i64 a0 = a0 := SX.wrap_small (by omega) (by omega)
  have k1 : SX.wrapF .i64 a1 = a1 := SX.wrap_small (by omega) (by omega)
  have e0 : (SX.gN 2 (SX.sgOf [.int .i64 a0, .int .i64 a1])) 2 = a0 := k0
  have e1 : (SX.gN 2 (SX.sgOf [.int .i64 a0, .int .i64 a1])) 3 = a1 := k1
  have m0 : (SX.gN 2 (SX.sgOf [.int .i64 a0, .int .i64 a1])) 4 = -a0 := by show -SX.wrapF .i64 a0 = -a0; rw [k0]
  have m1 : (SX.gN 2 (SX.sgOf [.int .i64 a0, .int .i64 a1])) 5 = -a1 := by show -SX.wrapF .i64 a1 = -a1; rw [k1]
  have fit : SX.FitAs W [.one (some .i64), .one (some .i64)] [.int .i64 a0, .int .i64 a1] [.int .i64 a0, .int .i64 a1] := ⟨[.int .i64 a0], _, rfl, ⟨rfl, ⟨a0, rfl, w0⟩⟩, ⟨[.int .i64 a1], _, rfl, ⟨rfl, ⟨a1, rfl, w1⟩⟩, rfl⟩⟩
  have run : Calls Try.prog 10 #[.int .i64 a0, .int .i64 a1] W fun e w' => e = .returned (.bool true) ∧ Go.RowKit.Below W.heap.size W w' := by
    by_cases g0 : a0 < (-288230376151711744 : Int)
    · exact SX.law_fitN SX.namesOk SX.mixed (fun g => SX.sumsA_ok g) case0 (facts0_ok _ a0 a1 e0 e1 m0 m1 g0) fit
    by_cases g1 : (288230376151711744 : Int) < a0
    · exact SX.law_fitN SX.namesOk SX.mixed (fun g => SX.sumsA_ok g) case1 (facts1_ok _ a0 a1 e0 e1 m0 m1 g1) fit
    by_cases g2 : a1 < (-288230376151711744 : Int)
    · exact SX.law_fitN SX.namesOk SX.mixed (fun g => SX.sumsA_ok g) case2 (facts2_ok _ a0 a1 e0 e1 m0 m1 g2) fit
    by_cases g3 : (288230376151711744 : Int) < a1
    · exact SX.law_fitN SX.namesOk SX.mixed (fun g => SX.sumsA_ok g) case3 (facts3_ok _ a0 a1 e0 e1 m0 m1 g3) fit
    by_cases g4 : a0 = (0 : Int)
    · exact SX.law_fitN SX.namesOk SX.mixed (fun g => SX.sumsA_ok g) case4 (facts4_ok _ a0 a1 e0 e1 m0 m1 g4) fit
    by_cases g5 : a1 = (0 : Int)
    · exact SX.law_fitN SX.namesOk SX.mixed (fun g => SX.sumsA_ok g) case5 (facts5_ok _ a0 a1 e0 e1 m0 m1 g5) fit
    by_cases s0 : (0 : Int) < a0
    · by_cases s1 : (0 : Int) < a1
      · by_cases o1 : a0 < a1
        · exact SX.law_fitN SX.namesOk SX.mixed (fun g => SX.sumsA_ok g) case6 (facts6_ok _ a0 a1 e0 e1 m0 m1 g0 g1 g2 g3 s0 s1 o1) fit
        · by_cases o2 : a1 < a0
          · exact SX.law_fitN SX.namesOk SX.mixed (fun g => SX.sumsA_ok g) case7 (facts7_ok _ a0 a1 e0 e1 m0 m1 g0 g1 g2 g3 s0 s1 o2) fit
          · exact SX.law_fitN SX.namesOk SX.mixed (fun g => SX.sumsA_ok g) case8 (facts8_ok _ a0 a1 e0 e1 m0 m1 g0 g1 g2 g3 s0 s1 o1 o2) fit
      · have t1 : a1 < (0 : Int) := by omega
        by_cases o1 : a0 < -a1
        · exact SX.law_fitN SX.namesOk SX.mixed (fun g => SX.sumsA_ok g) case9 (facts9_ok _ a0 a1 e0 e1 m0 m1 g0 g1 g2 g3 s0 t1 o1) fit
        · by_cases o2 : -a1 < a0
          · exact SX.law_fitN SX.namesOk SX.mixed (fun g => SX.sumsA_ok g) case10 (facts10_ok _ a0 a1 e0 e1 m0 m1 g0 g1 g2 g3 s0 t1 o2) fit
          · exact SX.law_fitN SX.namesOk SX.mixed (fun g => SX.sumsA_ok g) case11 (facts11_ok _ a0 a1 e0 e1 m0 m1 g0 g1 g2 g3 s0 t1 o1 o2) fit
    · have t0 : a0 < (0 : Int) := by omega
      by_cases s1 : (0 : Int) < a1
      · by_cases o1 : -a0 < a1
        · exact SX.law_fitN SX.namesOk SX.mixed (fun g => SX.sumsA_ok g) case12 (facts12_ok _ a0 a1 e0 e1 m0 m1 g0 g1 g2 g3 t0 s1 o1) fit
        · by_cases o2 : a1 < -a0
          · exact SX.law_fitN SX.namesOk SX.mixed (fun g => SX.sumsA_ok g) case13 (facts13_ok _ a0 a1 e0 e1 m0 m1 g0 g1 g2 g3 t0 s1 o2) fit
          · exact SX.law_fitN SX.namesOk SX.mixed (fun g => SX.sumsA_ok g) case14 (facts14_ok _ a0 a1 e0 e1 m0 m1 g0 g1 g2 g3 t0 s1 o1 o2) fit
      · have t1 : a1 < (0 : Int) := by omega
        by_cases o1 : -a0 < -a1
        · exact SX.law_fitN SX.namesOk SX.mixed (fun g => SX.sumsA_ok g) case15 (facts15_ok _ a0 a1 e0 e1 m0 m1 g0 g1 g2 g3 t0 t1 o1) fit
        · by_cases o2 : -a1 < -a0
          · exact SX.law_fitN SX.namesOk SX.mixed (fun g => SX.sumsA_ok g) case16 (facts16_ok _ a0 a1 e0 e1 m0 m1 g0 g1 g2 g3 t0 t1 o2) fit
          · exact SX.law_fitN SX.namesOk SX.mixed (fun g => SX.sumsA_ok g) case17 (facts17_ok _ a0 a1 e0 e1 m0 m1 g0 g1 g2 g3 t0 t1 o1 o2) fit
  refine run.mono fun e W' ⟨he, hg⟩ => ?_
  subst he
  exact ⟨_, rfl, law_post laidOut_any (by kernel_rfl) rfl (by kernel_rfl) Try.underlying4 rfl hW' hg⟩
theorem over : Rows.trigTurnsRow.holds Try.pinned (OpenSpec.ofChange Rows.trigTurnsSpec) :=
  OpenClaim.holds_of_wide 10 Try.f10 rfl rfl rfl rfl rfl rfl rfl ⟨rfl, rfl, rfl, rfl, rfl⟩ rfl rfl rfl rfl rfl (by kernel_rfl) Try.func10 (by kernel_rfl)
    (of_decide_eq_true (by kernel_rfl)) (by unfold Func.isWrapper; first | (rw [if_pos (by decide +kernel)]; kernel_rfl) | (rw [if_neg (by decide +kernel)]; exact ⟨rfl, rfl⟩))
    (fun os started H enc _ => lifted os started H enc)
/-- The statement. -/
theorem proved : Rows.TrigTurnsSaid := over
#print axioms proved
end Go.Proofs.Ytchdlanichhkcaa.trigTurns
