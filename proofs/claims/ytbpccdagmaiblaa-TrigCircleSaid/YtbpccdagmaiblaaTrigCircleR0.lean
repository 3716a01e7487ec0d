/- astrolabelaw4.TrigCircle, run with facts told ahead. -/
import Derived.Test.YtbpccdagmaiblaaSxHa
import Derived.Test.YtbpccdagmaiblaaKB
namespace Go.Proofs.Ytbpccdagmaiblaa.trigCircle
open Go SX
def facts0 : List (Bool × A × A × Bool) := [(false, .x 1, .k (-8589934592), false), (false, .k 8589934592, .x 1, false), (false, .k 100, .x 19, false), (false, .k 4, .x 39, false), (false, .k 4, .x 46, false), (false, .k 200, .x 61, false)]
def ds0 : Defs := [
  (1, .conv .i64, [.x 0]),
  (4, .u 36, [.x 1]),
  (5, .iop .rem .i64, [.x 1, .k 6746518852]),
  (6, .cmp .lss, [.k 3373259426, .x 5]),
  (7, .lin (-6746518852) [(1)], [.x 5]),
  (8, .cmp .lss, [.k (-3373259426), .x 5]),
  (10, .lin (6746518852) [(1)], [.x 5]),
  (11, .sel, [.x 8, .x 5, .x 10]),
  (12, .sel, [.x 6, .x 7, .x 11]),
  (13, .lin (1686629713) [(1)], [.x 12]),
  (14, .u 36, [.x 13]),
  (15, .u 16, [.k 30, .x 4, .x 4, .x 14, .x 14]),
  (16, .lin (-1073741824) [(1)], [.x 15]),
  (17, .cmp .lss, [.x 16, .k 0]),
  (18, .lin (1073741824) [(-1)], [.x 15]),
  (19, .sel, [.x 17, .x 18, .x 16]),
  (21, .lin (0) [(-1)], [.x 1]),
  (22, .u 36, [.x 21]),
  (23, .lin (0) [(-1)], [.x 4]),
  (24, .cmp .eql, [.x 22, .x 23]),
  (26, .iop .rem .i64, [.x 21, .k 6746518852]),
  (27, .cmp .lss, [.k 3373259426, .x 26]),
  (28, .lin (-6746518852) [(1)], [.x 26]),
  (29, .cmp .lss, [.k (-3373259426), .x 26]),
  (31, .lin (6746518852) [(1)], [.x 26]),
  (32, .sel, [.x 29, .x 26, .x 31]),
  (33, .sel, [.x 27, .x 28, .x 32]),
  (34, .lin (1686629713) [(1)], [.x 33]),
  (35, .u 36, [.x 34]),
  (36, .lin (0) [(-1), (1)], [.x 14, .x 35]),
  (37, .cmp .lss, [.x 36, .k 0]),
  (38, .lin (0) [(1), (-1)], [.x 14, .x 35]),
  (39, .sel, [.x 37, .x 38, .x 36]),
  (41, .lin (6746518852) [(1)], [.x 1]),
  (42, .u 36, [.x 41]),
  (43, .lin (0) [(-1), (1)], [.x 4, .x 42]),
  (44, .cmp .lss, [.x 43, .k 0]),
  (45, .lin (0) [(1), (-1)], [.x 4, .x 42]),
  (46, .sel, [.x 44, .x 45, .x 43]),
  (48, .u 38, [.x 4, .x 14]),
  (49, .u 39, [.x 4, .x 14]),
  (50, .lin (0) [(-1), (1)], [.x 1, .x 48]),
  (51, .iop .rem .i64, [.x 50, .k 6746518852]),
  (52, .cmp .lss, [.k 3373259426, .x 51]),
  (53, .lin (-6746518852) [(1)], [.x 51]),
  (54, .cmp .lss, [.k (-3373259426), .x 51]),
  (56, .lin (6746518852) [(1)], [.x 51]),
  (57, .sel, [.x 54, .x 51, .x 56]),
  (58, .sel, [.x 52, .x 53, .x 57]),
  (59, .cmp .lss, [.x 58, .k 0]),
  (60, .iop .sub .i64, [.k 0, .x 58]),
  (61, .sel, [.x 59, .x 60, .x 58]),
  (63, .not, [.x 49])]
abbrev rv0 : A := .x 63
def cs0 : List (Nat × Bool) := [(24, true)]
set_option maxRecDepth 1000000 in
theorem ran0 : lawQ [.one (some .i64)] facts0 cs0 ds0 rv0 (runPol lk U X sumsR (fun f => Nat.beq f 14 || Nat.beq f 15) never0 100000 40 3 (startF [.one (some .i64)] facts0).1 { (startF [.one (some .i64)] facts0).2 with orc := [true] }) = true := by kernel_rfl
/-- What the names stand for. -/
theorem eqs0 {g : Sg} (h : EqsP g ds0) :
    (g 1 = wrapF .i64 (g 0)) ∧
    (g 4 = U 36 [g 1]) ∧
    (g 5 = (g 1).tmod ((6746518852))) ∧
    (g 6 = b2i (cmpF .lss ((3373259426)) (g 5))) ∧
    (g 7 = (1) * g 5 + (-6746518852)) ∧
    (g 8 = b2i (cmpF .lss ((-3373259426)) (g 5))) ∧
    (g 10 = (1) * g 5 + (6746518852)) ∧
    (g 11 = bif ieq (g 8) 1 then g 5 else g 10) ∧
    (g 12 = bif ieq (g 6) 1 then g 7 else g 11) ∧
    (g 13 = (1) * g 12 + (1686629713)) ∧
    (g 14 = U 36 [g 13]) ∧
    (g 15 = U 16 [(30), g 4, g 4, g 14, g 14]) ∧
    (g 16 = (1) * g 15 + (-1073741824)) ∧
    (g 17 = b2i (cmpF .lss (g 16) ((0)))) ∧
    (g 18 = (-1) * g 15 + (1073741824)) ∧
    (g 19 = bif ieq (g 17) 1 then g 18 else g 16) ∧
    (g 21 = (-1) * g 1 + (0)) ∧
    (g 22 = U 36 [g 21]) ∧
    (g 23 = (-1) * g 4 + (0)) ∧
    (g 24 = b2i (cmpF .eql (g 22) (g 23))) ∧
    (g 26 = (g 21).tmod ((6746518852))) ∧
    (g 27 = b2i (cmpF .lss ((3373259426)) (g 26))) ∧
    (g 28 = (1) * g 26 + (-6746518852)) ∧
    (g 29 = b2i (cmpF .lss ((-3373259426)) (g 26))) ∧
    (g 31 = (1) * g 26 + (6746518852)) ∧
    (g 32 = bif ieq (g 29) 1 then g 26 else g 31) ∧
    (g 33 = bif ieq (g 27) 1 then g 28 else g 32) ∧
    (g 34 = (1) * g 33 + (1686629713)) ∧
    (g 35 = U 36 [g 34]) ∧
    (g 36 = (-1) * g 14 + ((1) * g 35 + (0))) ∧
    (g 37 = b2i (cmpF .lss (g 36) ((0)))) ∧
    (g 38 = (1) * g 14 + ((-1) * g 35 + (0))) ∧
    (g 39 = bif ieq (g 37) 1 then g 38 else g 36) ∧
    (g 41 = (1) * g 1 + (6746518852)) ∧
    (g 42 = U 36 [g 41]) ∧
    (g 43 = (-1) * g 4 + ((1) * g 42 + (0))) ∧
    (g 44 = b2i (cmpF .lss (g 43) ((0)))) ∧
    (g 45 = (1) * g 4 + ((-1) * g 42 + (0))) ∧
    (g 46 = bif ieq (g 44) 1 then g 45 else g 43) ∧
    (g 48 = U 38 [g 4, g 14]) ∧
    (g 49 = U 39 [g 4, g 14]) ∧
    (g 50 = (-1) * g 1 + ((1) * g 48 + (0))) ∧
    (g 51 = (g 50).tmod ((6746518852))) ∧
    (g 52 = b2i (cmpF .lss ((3373259426)) (g 51))) ∧
    (g 53 = (1) * g 51 + (-6746518852)) ∧
    (g 54 = b2i (cmpF .lss ((-3373259426)) (g 51))) ∧
    (g 56 = (1) * g 51 + (6746518852)) ∧
    (g 57 = bif ieq (g 54) 1 then g 51 else g 56) ∧
    (g 58 = bif ieq (g 52) 1 then g 53 else g 57) ∧
    (g 59 = b2i (cmpF .lss (g 58) ((0)))) ∧
    (g 60 = mean U (.iop .sub .i64) [(0), g 58]) ∧
    (g 61 = bif ieq (g 59) 1 then g 60 else g 58) ∧
    (g 63 = b2i (!ieq (g 49) 1)) ∧ True := h
theorem told0 {g : Sg} (h0 : ¬ (g 1 < (-8589934592 : Int))) (h1 : ¬ ((8589934592 : Int) < g 1)) (h2 : ¬ ((100 : Int) < g 19)) (h3 : ¬ ((4 : Int) < g 39)) (h4 : ¬ ((4 : Int) < g 46)) (h5 : ¬ ((200 : Int) < g 61)) : FactsOk g facts0 :=
  ⟨fact_lt (decide_eq_false h0), fact_lt (decide_eq_false h1), fact_lt (decide_eq_false h2), fact_lt (decide_eq_false h3), fact_lt (decide_eq_false h4), fact_lt (decide_eq_false h5), trivial⟩
end Go.Proofs.Ytbpccdagmaiblaa.trigCircle
