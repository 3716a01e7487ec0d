/- astrolabelaw8.EarthPlane: arguments of which nothing is asked. -/
import Derived.Test.YtbpccdagmaiblaaDoorEarthD
namespace Go.Proofs.YtbpccdagmaiblaaDoor.earthPlane
open Go SX
noncomputable section
def arsP : List Ar := [.agg [some .i64, some .i64, some .i64], .one (some .i64), .one (some .i64), .one (some .i64)]
def dsP : Defs := [(6, .conv .i64, [.x 0]), (7, .conv .i64, [.x 1]), (8, .conv .i64, [.x 2]), (9, .conv .i64, [.x 3]), (10, .conv .i64, [.x 4]), (11, .conv .i64, [.x 5])]
def b6 : Fac := inF 6 (-800000000) 800000000
def b7 : Fac := b6 ++ inF 7 (-1800000000) 1800000000
def b8 : Fac := b7 ++ inF 8 (-90000000) 90000000
def b9 : Fac := b8 ++ inF 9 1 10000000
def b10 : Fac := b9 ++ inF 10 1 10000000
def outP : Nat → Fac
  | 0 => lowF 6 (-800000000)
  | 1 => highF 6 800000000
  | 2 => b6 ++ lowF 7 (-1800000000)
  | 3 => b6 ++ highF 7 1800000000
  | 4 => b7 ++ lowF 8 (-100000000)
  | 5 => b7 ++ highF 8 100000000
  | 6 => b7 ++ inF 8 (-100000000) (-90000001)
  | 7 => b7 ++ inF 8 90000001 100000000
  | 8 => b8 ++ lowF 9 1
  | 9 => b8 ++ highF 9 10000000
  | 10 => b9 ++ lowF 10 1
  | 11 => b9 ++ highF 10 10000000
  | 12 => b10 ++ lowF 11 1
  | _ => b10 ++ highF 11 10000000
def runP (fs : Fac) : Bool := lawG tbE arsP fs dsP (.k 1) (runPol lk U X sumsW (fun f => Nat.beq f 18) never0 100000 40 5 (startG tbE arsP fs).1 (startG tbE arsP fs).2)
set_option maxRecDepth 1000000 in
theorem ranO : (List.range 14).all (fun j => runP (outP j)) = true := by kernel_rfl
theorem outP_names (j : Nat) : namesIn 6 11 (outP j) = true := by
  unfold outP
  split <;> rfl
/-- All of them are asked of. -/
def InP (o0 o1 o2 n e u : Int) : Prop := (-800000000 ≤ o0 ∧ o0 ≤ 800000000) ∧ (-1800000000 ≤ o1 ∧ o1 ≤ 1800000000) ∧ (-90000000 ≤ o2 ∧ o2 ≤ 90000000) ∧ (1 ≤ n ∧ n ≤ 10000000) ∧ (1 ≤ e ∧ e ≤ 10000000) ∧ (1 ≤ u ∧ u ≤ 10000000)
instance (o0 o1 o2 n e u : Int) : Decidable (InP o0 o1 o2 n e u) := inferInstanceAs (Decidable (_ ∧ _))
theorem splitP {g : Sg} (h : ¬ InP (g 6) (g 7) (g 8) (g 9) (g 10) (g 11)) : ∃ j, j < 14 ∧ FactsOk g (outP j) := by
  by_cases k0 : g 6 < -800000000
  · exact ⟨0, by decide, lowF_ok k0⟩
  by_cases k1 : 800000000 < g 6
  · exact ⟨1, by decide, highF_ok k1⟩
  have e6 : FactsOk g b6 := inF_ok (by omega) (by omega)
  by_cases k2 : g 7 < -1800000000
  · exact ⟨2, by decide, facts_app e6 (lowF_ok k2)⟩
  by_cases k3 : 1800000000 < g 7
  · exact ⟨3, by decide, facts_app e6 (highF_ok k3)⟩
  have e7 : FactsOk g b7 := facts_app e6 (inF_ok (by omega) (by omega))
  by_cases k4 : g 8 < -100000000
  · exact ⟨4, by decide, facts_app e7 (lowF_ok k4)⟩
  by_cases k5 : 100000000 < g 8
  · exact ⟨5, by decide, facts_app e7 (highF_ok k5)⟩
  by_cases k6 : g 8 < -90000000
  · exact ⟨6, by decide, facts_app e7 (inF_ok (by omega) (by omega))⟩
  by_cases k7 : 90000000 < g 8
  · exact ⟨7, by decide, facts_app e7 (inF_ok (by omega) (by omega))⟩
  have e8 : FactsOk g b8 := facts_app e7 (inF_ok (by omega) (by omega))
  by_cases k8 : g 9 < 1
  · exact ⟨8, by decide, facts_app e8 (lowF_ok k8)⟩
  by_cases k9 : 10000000 < g 9
  · exact ⟨9, by decide, facts_app e8 (highF_ok k9)⟩
  have e9 : FactsOk g b9 := facts_app e8 (inF_ok (by omega) (by omega))
  by_cases k10 : g 10 < 1
  · exact ⟨10, by decide, facts_app e9 (lowF_ok k10)⟩
  by_cases k11 : 10000000 < g 10
  · exact ⟨11, by decide, facts_app e9 (highF_ok k11)⟩
  have e10 : FactsOk g b10 := facts_app e9 (inF_ok (by omega) (by omega))
  by_cases k12 : g 11 < 1
  · exact ⟨12, by decide, facts_app e10 (lowF_ok k12)⟩
  by_cases k13 : 10000000 < g 11
  · exact ⟨13, by decide, facts_app e10 (highF_ok k13)⟩
  · exact absurd ⟨⟨by omega, by omega⟩, ⟨by omega, by omega⟩, ⟨by omega, by omega⟩, ⟨by omega, by omega⟩, ⟨by omega, by omega⟩, by omega, by omega⟩ h
end
end Go.Proofs.YtbpccdagmaiblaaDoor.earthPlane
