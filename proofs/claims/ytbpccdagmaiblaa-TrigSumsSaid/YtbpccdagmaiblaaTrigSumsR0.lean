/- astrolabelaw4.TrigSums, run with facts told ahead. -/
import Derived.Test.YtbpccdagmaiblaaSxHa
import Derived.Test.YtbpccdagmaiblaaTrigV
namespace Go.Proofs.Ytbpccdagmaiblaa.trigSums
open Go SX
def facts0 : List (Bool × A × A × Bool) := [(false, .x 2, .k (-4294967296), false), (false, .k 4294967296, .x 2, false), (false, .x 3, .k (-4294967296), false), (false, .k 4294967296, .x 3, false), (false, .k 200, .x 37, false)]
def ds0 : Defs := [
  (2, .conv .i64, [.x 0]),
  (3, .conv .i64, [.x 1]),
  (8, .u 36, [.x 2]),
  (9, .cmp .lss, [.k 3373259426, .x 2]),
  (10, .lin (-6746518852) [(1)], [.x 2]),
  (11, .cmp .lss, [.k (-3373259426), .x 2]),
  (13, .lin (6746518852) [(1)], [.x 2]),
  (14, .sel, [.x 11, .x 2, .x 13]),
  (15, .sel, [.x 9, .x 10, .x 14]),
  (16, .lin (1686629713) [(1)], [.x 15]),
  (17, .u 36, [.x 16]),
  (18, .cmp .lss, [.k 3373259426, .x 3]),
  (19, .lin (-6746518852) [(1)], [.x 3]),
  (20, .cmp .lss, [.k (-3373259426), .x 3]),
  (22, .lin (6746518852) [(1)], [.x 3]),
  (23, .sel, [.x 20, .x 3, .x 22]),
  (24, .sel, [.x 18, .x 19, .x 23]),
  (25, .lin (1686629713) [(1)], [.x 24]),
  (26, .u 36, [.x 25]),
  (27, .u 36, [.x 3]),
  (28, .u 16, [.k 30, .x 8, .x 26, .x 17, .x 27]),
  (30, .u 18, [.k 30, .k 1, .x 8, .x 27, .x 17, .x 26]),
  (32, .lin (0) [(1), (1)], [.x 2, .x 3]),
  (33, .u 36, [.x 32]),
  (34, .lin (0) [(1), (-1)], [.x 28, .x 33]),
  (35, .cmp .lss, [.x 34, .k 0]),
  (36, .lin (0) [(-1), (1)], [.x 28, .x 33]),
  (37, .sel, [.x 35, .x 36, .x 34]),
  (39, .iop .rem .i64, [.x 32, .k 6746518852]),
  (40, .cmp .lss, [.k 3373259426, .x 39]),
  (41, .lin (-6746518852) [(1)], [.x 39]),
  (42, .cmp .lss, [.k (-3373259426), .x 39]),
  (44, .lin (6746518852) [(1)], [.x 39]),
  (45, .sel, [.x 42, .x 39, .x 44]),
  (46, .sel, [.x 40, .x 41, .x 45]),
  (47, .lin (1686629713) [(1)], [.x 46]),
  (48, .u 36, [.x 47]),
  (49, .lin (0) [(-1), (-1)], [.x 30, .x 48]),
  (50, .cmp .lss, [.x 49, .k 0]),
  (51, .lin (0) [(1), (1)], [.x 30, .x 48]),
  (52, .sel, [.x 50, .x 51, .x 49]),
  (53, .cmp .lss, [.k 200, .x 52]),
  (54, .not, [.x 53])]
abbrev rv0 : A := .x 54
set_option maxRecDepth 1000000 in
theorem ran0 : lawH [.one (some .i64), .one (some .i64)] facts0 ds0 rv0 (runPol lk U X sumsS (fun f => Nat.beq f 14 || Nat.beq f 15) never0 100000 40 4 (startF [.one (some .i64), .one (some .i64)] facts0).1 (startF [.one (some .i64), .one (some .i64)] facts0).2) = true := by kernel_rfl
/-- What the names stand for. -/
theorem eqs0 {g : Sg} (h : EqsP g ds0) :
    (g 2 = wrapF .i64 (g 0)) ∧
    (g 3 = wrapF .i64 (g 1)) ∧
    (g 8 = U 36 [g 2]) ∧
    (g 9 = b2i (cmpF .lss ((3373259426)) (g 2))) ∧
    (g 10 = (1) * g 2 + (-6746518852)) ∧
    (g 11 = b2i (cmpF .lss ((-3373259426)) (g 2))) ∧
    (g 13 = (1) * g 2 + (6746518852)) ∧
    (g 14 = bif ieq (g 11) 1 then g 2 else g 13) ∧
    (g 15 = bif ieq (g 9) 1 then g 10 else g 14) ∧
    (g 16 = (1) * g 15 + (1686629713)) ∧
    (g 17 = U 36 [g 16]) ∧
    (g 18 = b2i (cmpF .lss ((3373259426)) (g 3))) ∧
    (g 19 = (1) * g 3 + (-6746518852)) ∧
    (g 20 = b2i (cmpF .lss ((-3373259426)) (g 3))) ∧
    (g 22 = (1) * g 3 + (6746518852)) ∧
    (g 23 = bif ieq (g 20) 1 then g 3 else g 22) ∧
    (g 24 = bif ieq (g 18) 1 then g 19 else g 23) ∧
    (g 25 = (1) * g 24 + (1686629713)) ∧
    (g 26 = U 36 [g 25]) ∧
    (g 27 = U 36 [g 3]) ∧
    (g 28 = U 16 [(30), g 8, g 26, g 17, g 27]) ∧
    (g 30 = U 18 [(30), (1), g 8, g 27, g 17, g 26]) ∧
    (g 32 = (1) * g 2 + ((1) * g 3 + (0))) ∧
    (g 33 = U 36 [g 32]) ∧
    (g 34 = (1) * g 28 + ((-1) * g 33 + (0))) ∧
    (g 35 = b2i (cmpF .lss (g 34) ((0)))) ∧
    (g 36 = (-1) * g 28 + ((1) * g 33 + (0))) ∧
    (g 37 = bif ieq (g 35) 1 then g 36 else g 34) ∧
    (g 39 = (g 32).tmod ((6746518852))) ∧
    (g 40 = b2i (cmpF .lss ((3373259426)) (g 39))) ∧
    (g 41 = (1) * g 39 + (-6746518852)) ∧
    (g 42 = b2i (cmpF .lss ((-3373259426)) (g 39))) ∧
    (g 44 = (1) * g 39 + (6746518852)) ∧
    (g 45 = bif ieq (g 42) 1 then g 39 else g 44) ∧
    (g 46 = bif ieq (g 40) 1 then g 41 else g 45) ∧
    (g 47 = (1) * g 46 + (1686629713)) ∧
    (g 48 = U 36 [g 47]) ∧
    (g 49 = (-1) * g 30 + ((-1) * g 48 + (0))) ∧
    (g 50 = b2i (cmpF .lss (g 49) ((0)))) ∧
    (g 51 = (1) * g 30 + ((1) * g 48 + (0))) ∧
    (g 52 = bif ieq (g 50) 1 then g 51 else g 49) ∧
    (g 53 = b2i (cmpF .lss ((200)) (g 52))) ∧
    (g 54 = b2i (!ieq (g 53) 1)) ∧ True := h
theorem told0 {g : Sg} (h0 : ¬ (g 2 < (-4294967296 : Int))) (h1 : ¬ ((4294967296 : Int) < g 2)) (h2 : ¬ (g 3 < (-4294967296 : Int))) (h3 : ¬ ((4294967296 : Int) < g 3)) (h4 : ¬ ((200 : Int) < g 37)) : FactsOk g facts0 :=
  ⟨fact_lt (decide_eq_false h0), fact_lt (decide_eq_false h1), fact_lt (decide_eq_false h2), fact_lt (decide_eq_false h3), fact_lt (decide_eq_false h4), trivial⟩
end Go.Proofs.Ytbpccdagmaiblaa.trigSums
