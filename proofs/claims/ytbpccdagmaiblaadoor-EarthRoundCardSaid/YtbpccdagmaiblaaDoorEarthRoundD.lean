/- astrolabelaw8.EarthRound: arguments of which nothing is asked. -/
import Derived.Test.YtbpccdagmaiblaaDoorEarthD
namespace Go.Proofs.YtbpccdagmaiblaaDoor.earthRound
open Go SX
noncomputable section
def arsR : List Ar := [.agg [some .i64, some .i64, some .i64], .one (some .i64), .one (some .i64)]
def dsR : Defs := [(5, .conv .i64, [.x 0]), (6, .conv .i64, [.x 1]), (7, .conv .i64, [.x 2]), (8, .conv .i64, [.x 3]), (9, .conv .i64, [.x 4])]
def outR : Nat → Fac
  | 8 => goodO 5 ++ lowF 8 (-900000000)
  | 9 => goodO 5 ++ highF 8 900000000
  | 10 => goodO 5 ++ (inF 8 (-900000000) 900000000 ++ lowF 9 (-100000000))
  | 11 => goodO 5 ++ (inF 8 (-900000000) 900000000 ++ highF 9 100000000)
  | j => badO 5 j
def runR (fs : Fac) : Bool := lawG tbE arsR fs dsR (.k 1) (runPol lk U X sumsW (fun f => Nat.beq f 18) never0 100000 40 6 (startG tbE arsR fs).1 (startG tbE arsR fs).2)
set_option maxRecDepth 1000000 in
theorem ranO : (List.range 12).all (fun j => runR (outR j)) = true := by kernel_rfl
theorem outR_names (j : Nat) (hj : j < 12) : namesIn 5 9 (outR j) = true := by
  have h : (List.range 12).all (fun j => namesIn 5 9 (outR j)) = true := by decide +kernel
  exact range_all h hj
def InR (o0 o1 o2 l a : Int) : Prop := ((-850000000 ≤ o0 ∧ o0 ≤ 850000000) ∧ (-1800000000 ≤ o1 ∧ o1 ≤ 1800000000) ∧ (-100000000 ≤ o2 ∧ o2 ≤ 100000000)) ∧ (-900000000 ≤ l ∧ l ≤ 900000000) ∧ (-100000000 ≤ a ∧ a ≤ 100000000)
instance (o0 o1 o2 l a : Int) : Decidable (InR o0 o1 o2 l a) := inferInstanceAs (Decidable (_ ∧ _))
theorem splitR {g : Sg} (h : ¬ InR (g 5) (g 6) (g 7) (g 8) (g 9)) : ∃ j, j < 12 ∧ FactsOk g (outR j) := by
  rcases originF (g := g) 5 with ⟨j, hj, e⟩ | e
  · refine ⟨j, by omega, ?_⟩
    match j, hj, e with
    | 0, _, e => exact e
    | 1, _, e => exact e
    | 2, _, e => exact e
    | 3, _, e => exact e
    | 4, _, e => exact e
    | 5, _, e => exact e
    | 6, _, e => exact e
    | 7, _, e => exact e
  · by_cases k0 : g 8 < -900000000
    · exact ⟨8, by decide, facts_app e (lowF_ok k0)⟩
    by_cases k1 : 900000000 < g 8
    · exact ⟨9, by decide, facts_app e (highF_ok k1)⟩
    have e8 : FactsOk g (inF 8 (-900000000) 900000000) := inF_ok (by omega) (by omega)
    by_cases k2 : g 9 < -100000000
    · exact ⟨10, by decide, facts_app e (facts_app e8 (lowF_ok k2))⟩
    by_cases k3 : 100000000 < g 9
    · exact ⟨11, by decide, facts_app e (facts_app e8 (highF_ok k3))⟩
    · obtain ⟨q1, q2, q3, q4, q5, q6, _⟩ := e
      refine absurd ⟨⟨⟨?_, ?_⟩, ⟨?_, ?_⟩, ?_, ?_⟩, ⟨by omega, by omega⟩, by omega, by omega⟩ h
      · exact fact_ge q1
      · exact fact_le q2
      · exact fact_ge q3
      · exact fact_le q4
      · exact fact_ge q5
      · exact fact_le q6
end
end Go.Proofs.YtbpccdagmaiblaaDoor.earthRound
