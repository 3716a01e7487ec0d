/- astrolabelaw7.RotTurns, run with facts told ahead, case by case. -/
import Derived.Test.YtplojnnjkpeifaaSxHa
import Derived.Test.YtplojnnjkpeifaaAwakes
namespace Go.Proofs.Ytplojnnjkpeifaa.rotTurns
open Go SX
def facts0 : List (Bool × A × A × Bool) := [(false, .x 19, .k (-1099511627776), false), (false, .k 1099511627776, .x 19, false), (false, .x 20, .k (-1099511627776), false), (false, .k 1099511627776, .x 20, false), (false, .x 21, .k (-1099511627776), false), (false, .k 1099511627776, .x 21, false)]
def ds0 : Defs := [
  (11, .conv .i64, [.x 0]),
  (12, .conv .i64, [.x 1]),
  (13, .conv .i64, [.x 2]),
  (14, .conv .i64, [.x 3]),
  (15, .conv .i64, [.x 4]),
  (16, .conv .i64, [.x 5]),
  (17, .conv .i64, [.x 6]),
  (18, .conv .i64, [.x 7]),
  (19, .conv .i64, [.x 8]),
  (20, .conv .i64, [.x 9]),
  (21, .conv .i64, [.x 10]),
  (28, .u 0, [.x 11]),
  (30, .u 0, [.x 12]),
  (33, .u 0, [.x 13]),
  (36, .u 0, [.x 14]),
  (39, .cmp .eql, [.x 28, .k 0]),
  (40, .cmp .eql, [.x 30, .k 0]),
  (41, .sel, [.x 39, .x 40, .k 0]),
  (42, .cmp .eql, [.x 33, .k 0]),
  (43, .sel, [.x 41, .x 42, .k 0]),
  (44, .cmp .eql, [.x 36, .k 0]),
  (45, .sel, [.x 43, .x 44, .k 0]),
  (46, .u 0, [.x 15]),
  (49, .u 0, [.x 16]),
  (52, .u 0, [.x 17]),
  (55, .u 0, [.x 18]),
  (58, .cmp .eql, [.x 46, .k 0]),
  (59, .cmp .eql, [.x 49, .k 0]),
  (60, .sel, [.x 58, .x 59, .k 0]),
  (61, .cmp .eql, [.x 52, .k 0]),
  (62, .sel, [.x 60, .x 61, .k 0]),
  (63, .cmp .eql, [.x 55, .k 0]),
  (64, .sel, [.x 62, .x 63, .k 0])]
abbrev rv0 : A := .k 1
def cs0 : List (Nat × Bool) := [(64, true), (45, true)]
set_option maxRecDepth 1000000 in
theorem ran0 : lawQ [.agg [some .i64, some .i64, some .i64, some .i64], .agg [some .i64, some .i64, some .i64, some .i64], .agg [some .i64, some .i64, some .i64]] facts0 cs0 ds0 rv0 (runPol lk U X sumsA never never0 100000 40 5 (startF [.agg [some .i64, some .i64, some .i64, some .i64], .agg [some .i64, some .i64, some .i64, some .i64], .agg [some .i64, some .i64, some .i64]] facts0).1 { (startF [.agg [some .i64, some .i64, some .i64, some .i64], .agg [some .i64, some .i64, some .i64, some .i64], .agg [some .i64, some .i64, some .i64]] facts0).2 with orc := [true,true] }) = true := by kernel_rfl
/-- What the names stand for. -/
theorem eqs0 {g : Sg} (h : EqsP g ds0) :
    (g 11 = wrapF .i64 (g 0)) ∧
    (g 12 = wrapF .i64 (g 1)) ∧
    (g 13 = wrapF .i64 (g 2)) ∧
    (g 14 = wrapF .i64 (g 3)) ∧
    (g 15 = wrapF .i64 (g 4)) ∧
    (g 16 = wrapF .i64 (g 5)) ∧
    (g 17 = wrapF .i64 (g 6)) ∧
    (g 18 = wrapF .i64 (g 7)) ∧
    (g 19 = wrapF .i64 (g 8)) ∧
    (g 20 = wrapF .i64 (g 9)) ∧
    (g 21 = wrapF .i64 (g 10)) ∧
    (g 28 = U 0 [g 11]) ∧
    (g 30 = U 0 [g 12]) ∧
    (g 33 = U 0 [g 13]) ∧
    (g 36 = U 0 [g 14]) ∧
    (g 39 = b2i (cmpF .eql (g 28) ((0)))) ∧
    (g 40 = b2i (cmpF .eql (g 30) ((0)))) ∧
    (g 41 = bif ieq (g 39) 1 then g 40 else (0)) ∧
    (g 42 = b2i (cmpF .eql (g 33) ((0)))) ∧
    (g 43 = bif ieq (g 41) 1 then g 42 else (0)) ∧
    (g 44 = b2i (cmpF .eql (g 36) ((0)))) ∧
    (g 45 = bif ieq (g 43) 1 then g 44 else (0)) ∧
    (g 46 = U 0 [g 15]) ∧
    (g 49 = U 0 [g 16]) ∧
    (g 52 = U 0 [g 17]) ∧
    (g 55 = U 0 [g 18]) ∧
    (g 58 = b2i (cmpF .eql (g 46) ((0)))) ∧
    (g 59 = b2i (cmpF .eql (g 49) ((0)))) ∧
    (g 60 = bif ieq (g 58) 1 then g 59 else (0)) ∧
    (g 61 = b2i (cmpF .eql (g 52) ((0)))) ∧
    (g 62 = bif ieq (g 60) 1 then g 61 else (0)) ∧
    (g 63 = b2i (cmpF .eql (g 55) ((0)))) ∧
    (g 64 = bif ieq (g 62) 1 then g 63 else (0)) ∧ True := h
theorem told0 {g : Sg} (h0 : ¬ (g 19 < (-1099511627776 : Int))) (h1 : ¬ ((1099511627776 : Int) < g 19)) (h2 : ¬ (g 20 < (-1099511627776 : Int))) (h3 : ¬ ((1099511627776 : Int) < g 20)) (h4 : ¬ (g 21 < (-1099511627776 : Int))) (h5 : ¬ ((1099511627776 : Int) < g 21)) : FactsOk g facts0 :=
  ⟨fact_lt (decide_eq_false h0), fact_lt (decide_eq_false h1), fact_lt (decide_eq_false h2), fact_lt (decide_eq_false h3), fact_lt (decide_eq_false h4), fact_lt (decide_eq_false h5), trivial⟩
end Go.Proofs.Ytplojnnjkpeifaa.rotTurns

namespace Go.Proofs.Ytplojnnjkpeifaa.rotTurns
open Go SX
def facts1 : List (Bool × A × A × Bool) := [(false, .x 19, .k (-1099511627776), false), (false, .k 1099511627776, .x 19, false), (false, .x 20, .k (-1099511627776), false), (false, .k 1099511627776, .x 20, false), (false, .x 21, .k (-1099511627776), false), (false, .k 1099511627776, .x 21, false)]
def ds1 : Defs := [
  (11, .conv .i64, [.x 0]),
  (12, .conv .i64, [.x 1]),
  (13, .conv .i64, [.x 2]),
  (14, .conv .i64, [.x 3]),
  (15, .conv .i64, [.x 4]),
  (16, .conv .i64, [.x 5]),
  (17, .conv .i64, [.x 6]),
  (18, .conv .i64, [.x 7]),
  (19, .conv .i64, [.x 8]),
  (20, .conv .i64, [.x 9]),
  (21, .conv .i64, [.x 10]),
  (28, .u 0, [.x 11]),
  (30, .u 0, [.x 12]),
  (33, .u 0, [.x 13]),
  (36, .u 0, [.x 14]),
  (39, .cmp .eql, [.x 28, .k 0]),
  (40, .cmp .eql, [.x 30, .k 0]),
  (41, .sel, [.x 39, .x 40, .k 0]),
  (42, .cmp .eql, [.x 33, .k 0]),
  (43, .sel, [.x 41, .x 42, .k 0]),
  (44, .cmp .eql, [.x 36, .k 0]),
  (45, .sel, [.x 43, .x 44, .k 0]),
  (46, .u 0, [.x 15]),
  (49, .u 0, [.x 16]),
  (52, .u 0, [.x 17]),
  (55, .u 0, [.x 18]),
  (58, .cmp .eql, [.x 46, .k 0]),
  (59, .cmp .eql, [.x 49, .k 0]),
  (60, .sel, [.x 58, .x 59, .k 0]),
  (61, .cmp .eql, [.x 52, .k 0]),
  (62, .sel, [.x 60, .x 61, .k 0]),
  (63, .cmp .eql, [.x 55, .k 0]),
  (64, .sel, [.x 62, .x 63, .k 0])]
abbrev rv1 : A := .k 1
def cs1 : List (Nat × Bool) := [(64, false), (45, true)]
set_option maxRecDepth 1000000 in
theorem ran1 : lawQ [.agg [some .i64, some .i64, some .i64, some .i64], .agg [some .i64, some .i64, some .i64, some .i64], .agg [some .i64, some .i64, some .i64]] facts1 cs1 ds1 rv1 (runPol lk U X sumsA never never0 100000 40 5 (startF [.agg [some .i64, some .i64, some .i64, some .i64], .agg [some .i64, some .i64, some .i64, some .i64], .agg [some .i64, some .i64, some .i64]] facts1).1 { (startF [.agg [some .i64, some .i64, some .i64, some .i64], .agg [some .i64, some .i64, some .i64, some .i64], .agg [some .i64, some .i64, some .i64]] facts1).2 with orc := [true,false] }) = true := by kernel_rfl
/-- What the names stand for. -/
theorem eqs1 {g : Sg} (h : EqsP g ds1) :
    (g 11 = wrapF .i64 (g 0)) ∧
    (g 12 = wrapF .i64 (g 1)) ∧
    (g 13 = wrapF .i64 (g 2)) ∧
    (g 14 = wrapF .i64 (g 3)) ∧
    (g 15 = wrapF .i64 (g 4)) ∧
    (g 16 = wrapF .i64 (g 5)) ∧
    (g 17 = wrapF .i64 (g 6)) ∧
    (g 18 = wrapF .i64 (g 7)) ∧
    (g 19 = wrapF .i64 (g 8)) ∧
    (g 20 = wrapF .i64 (g 9)) ∧
    (g 21 = wrapF .i64 (g 10)) ∧
    (g 28 = U 0 [g 11]) ∧
    (g 30 = U 0 [g 12]) ∧
    (g 33 = U 0 [g 13]) ∧
    (g 36 = U 0 [g 14]) ∧
    (g 39 = b2i (cmpF .eql (g 28) ((0)))) ∧
    (g 40 = b2i (cmpF .eql (g 30) ((0)))) ∧
    (g 41 = bif ieq (g 39) 1 then g 40 else (0)) ∧
    (g 42 = b2i (cmpF .eql (g 33) ((0)))) ∧
    (g 43 = bif ieq (g 41) 1 then g 42 else (0)) ∧
    (g 44 = b2i (cmpF .eql (g 36) ((0)))) ∧
    (g 45 = bif ieq (g 43) 1 then g 44 else (0)) ∧
    (g 46 = U 0 [g 15]) ∧
    (g 49 = U 0 [g 16]) ∧
    (g 52 = U 0 [g 17]) ∧
    (g 55 = U 0 [g 18]) ∧
    (g 58 = b2i (cmpF .eql (g 46) ((0)))) ∧
    (g 59 = b2i (cmpF .eql (g 49) ((0)))) ∧
    (g 60 = bif ieq (g 58) 1 then g 59 else (0)) ∧
    (g 61 = b2i (cmpF .eql (g 52) ((0)))) ∧
    (g 62 = bif ieq (g 60) 1 then g 61 else (0)) ∧
    (g 63 = b2i (cmpF .eql (g 55) ((0)))) ∧
    (g 64 = bif ieq (g 62) 1 then g 63 else (0)) ∧ True := h
theorem told1 {g : Sg} (h0 : ¬ (g 19 < (-1099511627776 : Int))) (h1 : ¬ ((1099511627776 : Int) < g 19)) (h2 : ¬ (g 20 < (-1099511627776 : Int))) (h3 : ¬ ((1099511627776 : Int) < g 20)) (h4 : ¬ (g 21 < (-1099511627776 : Int))) (h5 : ¬ ((1099511627776 : Int) < g 21)) : FactsOk g facts1 :=
  ⟨fact_lt (decide_eq_false h0), fact_lt (decide_eq_false h1), fact_lt (decide_eq_false h2), fact_lt (decide_eq_false h3), fact_lt (decide_eq_false h4), fact_lt (decide_eq_false h5), trivial⟩
end Go.Proofs.Ytplojnnjkpeifaa.rotTurns

namespace Go.Proofs.Ytplojnnjkpeifaa.rotTurns
open Go SX
def facts2 : List (Bool × A × A × Bool) := [(false, .x 19, .k (-1099511627776), false), (false, .k 1099511627776, .x 19, false), (false, .x 20, .k (-1099511627776), false), (false, .k 1099511627776, .x 20, false), (false, .x 21, .k (-1099511627776), false), (false, .k 1099511627776, .x 21, false), (false, .k 32768, .x 120, false), (false, .x 120, .k (-32768), false), (false, .k 32768, .x 123, false), (false, .x 123, .k (-32768), false), (false, .k 32768, .x 126, false), (false, .x 126, .k (-32768), false), (false, .k 32768, .x 115, false), (false, .x 115, .k (-32768), false)]
def ds2 : Defs := [
  (11, .conv .i64, [.x 0]),
  (12, .conv .i64, [.x 1]),
  (13, .conv .i64, [.x 2]),
  (14, .conv .i64, [.x 3]),
  (15, .conv .i64, [.x 4]),
  (16, .conv .i64, [.x 5]),
  (17, .conv .i64, [.x 6]),
  (18, .conv .i64, [.x 7]),
  (19, .conv .i64, [.x 8]),
  (20, .conv .i64, [.x 9]),
  (21, .conv .i64, [.x 10]),
  (28, .u 0, [.x 11]),
  (30, .u 0, [.x 12]),
  (33, .u 0, [.x 13]),
  (36, .u 0, [.x 14]),
  (39, .cmp .eql, [.x 28, .k 0]),
  (40, .cmp .eql, [.x 30, .k 0]),
  (41, .sel, [.x 39, .x 40, .k 0]),
  (42, .cmp .eql, [.x 33, .k 0]),
  (43, .sel, [.x 41, .x 42, .k 0]),
  (44, .cmp .eql, [.x 36, .k 0]),
  (45, .sel, [.x 43, .x 44, .k 0]),
  (46, .u 32, [.x 28, .x 30, .x 33, .x 36]),
  (49, .u 4, [.x 28, .x 46, .k 30]),
  (52, .u 4, [.x 30, .x 46, .k 30]),
  (55, .u 4, [.x 33, .x 46, .k 30]),
  (58, .u 4, [.x 36, .x 46, .k 30]),
  (61, .u 32, [.x 49, .x 52, .x 55, .x 58]),
  (62, .u 4, [.x 49, .x 61, .k 30]),
  (65, .u 4, [.x 52, .x 61, .k 30]),
  (68, .u 4, [.x 55, .x 61, .k 30]),
  (71, .u 4, [.x 58, .x 61, .k 30]),
  (74, .u 0, [.x 15]),
  (77, .u 0, [.x 16]),
  (80, .u 0, [.x 17]),
  (83, .u 0, [.x 18]),
  (86, .cmp .eql, [.x 74, .k 0]),
  (87, .cmp .eql, [.x 77, .k 0]),
  (88, .sel, [.x 86, .x 87, .k 0]),
  (89, .cmp .eql, [.x 80, .k 0]),
  (90, .sel, [.x 88, .x 89, .k 0]),
  (91, .cmp .eql, [.x 83, .k 0]),
  (92, .sel, [.x 90, .x 91, .k 0]),
  (97, .u 18, [.k 30, .k 2, .x 62, .x 62, .x 65, .x 65, .x 68, .x 68, .x 71, .x 71]),
  (98, .u 18, [.k 30, .k 2, .x 62, .x 71, .x 62, .x 71, .x 65, .x 68, .x 65, .x 68]),
  (100, .u 16, [.k 30, .x 62, .x 68, .x 62, .x 68, .x 65, .x 71, .x 65, .x 71]),
  (101, .u 16, [.k 30, .x 62, .x 71, .x 62, .x 71, .x 65, .x 68, .x 65, .x 68]),
  (102, .u 18, [.k 30, .k 2, .x 62, .x 62, .x 68, .x 68, .x 65, .x 65, .x 71, .x 71]),
  (103, .u 18, [.k 30, .k 2, .x 62, .x 65, .x 62, .x 65, .x 68, .x 71, .x 68, .x 71]),
  (105, .u 18, [.k 30, .k 2, .x 62, .x 68, .x 62, .x 68, .x 65, .x 71, .x 65, .x 71]),
  (107, .u 16, [.k 30, .x 62, .x 65, .x 62, .x 65, .x 68, .x 71, .x 68, .x 71]),
  (108, .u 18, [.k 30, .k 2, .x 62, .x 62, .x 71, .x 71, .x 65, .x 65, .x 68, .x 68]),
  (109, .u 18, [.k 30, .k 2, .x 19, .x 97, .x 21, .x 100, .x 20, .x 98]),
  (110, .u 18, [.k 30, .k 2, .x 19, .x 101, .x 20, .x 102, .x 21, .x 103]),
  (111, .u 18, [.k 30, .k 1, .x 19, .x 105, .x 20, .x 107, .x 21, .x 108]),
  (112, .lin (0) [(-1)], [.x 111]),
  (113, .u 32, [.x 109, .x 110, .x 112]),
  (114, .u 32, [.x 19, .x 20, .x 21]),
  (115, .lin (0) [(1), (-1)], [.x 113, .x 114]),
  (116, .u 16, [.k 30, .x 97, .x 109, .x 101, .x 110, .x 105, .x 111]),
  (117, .u 18, [.k 30, .k 2, .x 98, .x 109, .x 107, .x 111, .x 102, .x 110]),
  (119, .u 18, [.k 30, .k 1, .x 100, .x 109, .x 103, .x 110, .x 108, .x 111]),
  (120, .lin (0) [(-1), (1)], [.x 19, .x 116]),
  (123, .lin (0) [(-1), (-1)], [.x 20, .x 117]),
  (126, .lin (0) [(-1), (1)], [.x 21, .x 119])]
abbrev rv2 : A := .k 1
def cs2 : List (Nat × Bool) := [(92, true), (45, false)]
set_option maxRecDepth 1000000 in
theorem ran2 : lawQ [.agg [some .i64, some .i64, some .i64, some .i64], .agg [some .i64, some .i64, some .i64, some .i64], .agg [some .i64, some .i64, some .i64]] facts2 cs2 ds2 rv2 (runPol lk U X sumsA never never0 100000 40 5 (startF [.agg [some .i64, some .i64, some .i64, some .i64], .agg [some .i64, some .i64, some .i64, some .i64], .agg [some .i64, some .i64, some .i64]] facts2).1 { (startF [.agg [some .i64, some .i64, some .i64, some .i64], .agg [some .i64, some .i64, some .i64, some .i64], .agg [some .i64, some .i64, some .i64]] facts2).2 with orc := [false,true] }) = true := by kernel_rfl
/-- What the names stand for. -/
theorem eqs2 {g : Sg} (h : EqsP g ds2) :
    (g 11 = wrapF .i64 (g 0)) ∧
    (g 12 = wrapF .i64 (g 1)) ∧
    (g 13 = wrapF .i64 (g 2)) ∧
    (g 14 = wrapF .i64 (g 3)) ∧
    (g 15 = wrapF .i64 (g 4)) ∧
    (g 16 = wrapF .i64 (g 5)) ∧
    (g 17 = wrapF .i64 (g 6)) ∧
    (g 18 = wrapF .i64 (g 7)) ∧
    (g 19 = wrapF .i64 (g 8)) ∧
    (g 20 = wrapF .i64 (g 9)) ∧
    (g 21 = wrapF .i64 (g 10)) ∧
    (g 28 = U 0 [g 11]) ∧
    (g 30 = U 0 [g 12]) ∧
    (g 33 = U 0 [g 13]) ∧
    (g 36 = U 0 [g 14]) ∧
    (g 39 = b2i (cmpF .eql (g 28) ((0)))) ∧
    (g 40 = b2i (cmpF .eql (g 30) ((0)))) ∧
    (g 41 = bif ieq (g 39) 1 then g 40 else (0)) ∧
    (g 42 = b2i (cmpF .eql (g 33) ((0)))) ∧
    (g 43 = bif ieq (g 41) 1 then g 42 else (0)) ∧
    (g 44 = b2i (cmpF .eql (g 36) ((0)))) ∧
    (g 45 = bif ieq (g 43) 1 then g 44 else (0)) ∧
    (g 46 = U 32 [g 28, g 30, g 33, g 36]) ∧
    (g 49 = U 4 [g 28, g 46, (30)]) ∧
    (g 52 = U 4 [g 30, g 46, (30)]) ∧
    (g 55 = U 4 [g 33, g 46, (30)]) ∧
    (g 58 = U 4 [g 36, g 46, (30)]) ∧
    (g 61 = U 32 [g 49, g 52, g 55, g 58]) ∧
    (g 62 = U 4 [g 49, g 61, (30)]) ∧
    (g 65 = U 4 [g 52, g 61, (30)]) ∧
    (g 68 = U 4 [g 55, g 61, (30)]) ∧
    (g 71 = U 4 [g 58, g 61, (30)]) ∧
    (g 74 = U 0 [g 15]) ∧
    (g 77 = U 0 [g 16]) ∧
    (g 80 = U 0 [g 17]) ∧
    (g 83 = U 0 [g 18]) ∧
    (g 86 = b2i (cmpF .eql (g 74) ((0)))) ∧
    (g 87 = b2i (cmpF .eql (g 77) ((0)))) ∧
    (g 88 = bif ieq (g 86) 1 then g 87 else (0)) ∧
    (g 89 = b2i (cmpF .eql (g 80) ((0)))) ∧
    (g 90 = bif ieq (g 88) 1 then g 89 else (0)) ∧
    (g 91 = b2i (cmpF .eql (g 83) ((0)))) ∧
    (g 92 = bif ieq (g 90) 1 then g 91 else (0)) ∧
    (g 97 = U 18 [(30), (2), g 62, g 62, g 65, g 65, g 68, g 68, g 71, g 71]) ∧
    (g 98 = U 18 [(30), (2), g 62, g 71, g 62, g 71, g 65, g 68, g 65, g 68]) ∧
    (g 100 = U 16 [(30), g 62, g 68, g 62, g 68, g 65, g 71, g 65, g 71]) ∧
    (g 101 = U 16 [(30), g 62, g 71, g 62, g 71, g 65, g 68, g 65, g 68]) ∧
    (g 102 = U 18 [(30), (2), g 62, g 62, g 68, g 68, g 65, g 65, g 71, g 71]) ∧
    (g 103 = U 18 [(30), (2), g 62, g 65, g 62, g 65, g 68, g 71, g 68, g 71]) ∧
    (g 105 = U 18 [(30), (2), g 62, g 68, g 62, g 68, g 65, g 71, g 65, g 71]) ∧
    (g 107 = U 16 [(30), g 62, g 65, g 62, g 65, g 68, g 71, g 68, g 71]) ∧
    (g 108 = U 18 [(30), (2), g 62, g 62, g 71, g 71, g 65, g 65, g 68, g 68]) ∧
    (g 109 = U 18 [(30), (2), g 19, g 97, g 21, g 100, g 20, g 98]) ∧
    (g 110 = U 18 [(30), (2), g 19, g 101, g 20, g 102, g 21, g 103]) ∧
    (g 111 = U 18 [(30), (1), g 19, g 105, g 20, g 107, g 21, g 108]) ∧
    (g 112 = (-1) * g 111 + (0)) ∧
    (g 113 = U 32 [g 109, g 110, g 112]) ∧
    (g 114 = U 32 [g 19, g 20, g 21]) ∧
    (g 115 = (1) * g 113 + ((-1) * g 114 + (0))) ∧
    (g 116 = U 16 [(30), g 97, g 109, g 101, g 110, g 105, g 111]) ∧
    (g 117 = U 18 [(30), (2), g 98, g 109, g 107, g 111, g 102, g 110]) ∧
    (g 119 = U 18 [(30), (1), g 100, g 109, g 103, g 110, g 108, g 111]) ∧
    (g 120 = (-1) * g 19 + ((1) * g 116 + (0))) ∧
    (g 123 = (-1) * g 20 + ((-1) * g 117 + (0))) ∧
    (g 126 = (-1) * g 21 + ((1) * g 119 + (0))) ∧ True := h
theorem told2 {g : Sg} (h0 : ¬ (g 19 < (-1099511627776 : Int))) (h1 : ¬ ((1099511627776 : Int) < g 19)) (h2 : ¬ (g 20 < (-1099511627776 : Int))) (h3 : ¬ ((1099511627776 : Int) < g 20)) (h4 : ¬ (g 21 < (-1099511627776 : Int))) (h5 : ¬ ((1099511627776 : Int) < g 21)) (h6 : ¬ ((32768 : Int) < g 120)) (h7 : ¬ (g 120 < (-32768 : Int))) (h8 : ¬ ((32768 : Int) < g 123)) (h9 : ¬ (g 123 < (-32768 : Int))) (h10 : ¬ ((32768 : Int) < g 126)) (h11 : ¬ (g 126 < (-32768 : Int))) (h12 : ¬ ((32768 : Int) < g 115)) (h13 : ¬ (g 115 < (-32768 : Int))) : FactsOk g facts2 :=
  ⟨fact_lt (decide_eq_false h0), fact_lt (decide_eq_false h1), fact_lt (decide_eq_false h2), fact_lt (decide_eq_false h3), fact_lt (decide_eq_false h4), fact_lt (decide_eq_false h5), fact_lt (decide_eq_false h6), fact_lt (decide_eq_false h7), fact_lt (decide_eq_false h8), fact_lt (decide_eq_false h9), fact_lt (decide_eq_false h10), fact_lt (decide_eq_false h11), fact_lt (decide_eq_false h12), fact_lt (decide_eq_false h13), trivial⟩
end Go.Proofs.Ytplojnnjkpeifaa.rotTurns

namespace Go.Proofs.Ytplojnnjkpeifaa.rotTurns
open Go SX
def facts4 : List (Bool × A × A × Bool) := [(false, .x 19, .k (-1099511627776), true)]
def ds4 : Defs := [
  (19, .conv .i64, [.x 8])]
abbrev rv4 : A := .k 1
set_option maxRecDepth 1000000 in
theorem ran4 : lawH [.agg [some .i64, some .i64, some .i64, some .i64], .agg [some .i64, some .i64, some .i64, some .i64], .agg [some .i64, some .i64, some .i64]] facts4 ds4 rv4 (runPol lk U X sumsA never never0 100000 40 5 (startF [.agg [some .i64, some .i64, some .i64, some .i64], .agg [some .i64, some .i64, some .i64, some .i64], .agg [some .i64, some .i64, some .i64]] facts4).1 (startF [.agg [some .i64, some .i64, some .i64, some .i64], .agg [some .i64, some .i64, some .i64, some .i64], .agg [some .i64, some .i64, some .i64]] facts4).2) = true := by kernel_rfl
/-- What the names stand for. -/
theorem eqs4 {g : Sg} (h : EqsP g ds4) :
    (g 19 = wrapF .i64 (g 8)) ∧ True := h
theorem told4 {g : Sg} (h0 : g 19 < (-1099511627776 : Int)) : FactsOk g facts4 :=
  ⟨fact_lt (decide_eq_true h0), trivial⟩
end Go.Proofs.Ytplojnnjkpeifaa.rotTurns

namespace Go.Proofs.Ytplojnnjkpeifaa.rotTurns
open Go SX
def facts5 : List (Bool × A × A × Bool) := [(false, .x 19, .k (-1099511627776), false), (false, .k 1099511627776, .x 19, true)]
def ds5 : Defs := [
  (19, .conv .i64, [.x 8])]
abbrev rv5 : A := .k 1
set_option maxRecDepth 1000000 in
theorem ran5 : lawH [.agg [some .i64, some .i64, some .i64, some .i64], .agg [some .i64, some .i64, some .i64, some .i64], .agg [some .i64, some .i64, some .i64]] facts5 ds5 rv5 (runPol lk U X sumsA never never0 100000 40 5 (startF [.agg [some .i64, some .i64, some .i64, some .i64], .agg [some .i64, some .i64, some .i64, some .i64], .agg [some .i64, some .i64, some .i64]] facts5).1 (startF [.agg [some .i64, some .i64, some .i64, some .i64], .agg [some .i64, some .i64, some .i64, some .i64], .agg [some .i64, some .i64, some .i64]] facts5).2) = true := by kernel_rfl
/-- What the names stand for. -/
theorem eqs5 {g : Sg} (h : EqsP g ds5) :
    (g 19 = wrapF .i64 (g 8)) ∧ True := h
theorem told5 {g : Sg} (h0 : ¬ (g 19 < (-1099511627776 : Int))) (h1 : (1099511627776 : Int) < g 19) : FactsOk g facts5 :=
  ⟨fact_lt (decide_eq_false h0), fact_lt (decide_eq_true h1), trivial⟩
end Go.Proofs.Ytplojnnjkpeifaa.rotTurns

namespace Go.Proofs.Ytplojnnjkpeifaa.rotTurns
open Go SX
def facts6 : List (Bool × A × A × Bool) := [(false, .x 19, .k (-1099511627776), false), (false, .k 1099511627776, .x 19, false), (false, .x 20, .k (-1099511627776), true)]
def ds6 : Defs := [
  (19, .conv .i64, [.x 8]),
  (20, .conv .i64, [.x 9])]
abbrev rv6 : A := .k 1
set_option maxRecDepth 1000000 in
theorem ran6 : lawH [.agg [some .i64, some .i64, some .i64, some .i64], .agg [some .i64, some .i64, some .i64, some .i64], .agg [some .i64, some .i64, some .i64]] facts6 ds6 rv6 (runPol lk U X sumsA never never0 100000 40 5 (startF [.agg [some .i64, some .i64, some .i64, some .i64], .agg [some .i64, some .i64, some .i64, some .i64], .agg [some .i64, some .i64, some .i64]] facts6).1 (startF [.agg [some .i64, some .i64, some .i64, some .i64], .agg [some .i64, some .i64, some .i64, some .i64], .agg [some .i64, some .i64, some .i64]] facts6).2) = true := by kernel_rfl
/-- What the names stand for. -/
theorem eqs6 {g : Sg} (h : EqsP g ds6) :
    (g 19 = wrapF .i64 (g 8)) ∧
    (g 20 = wrapF .i64 (g 9)) ∧ True := h
theorem told6 {g : Sg} (h0 : ¬ (g 19 < (-1099511627776 : Int))) (h1 : ¬ ((1099511627776 : Int) < g 19)) (h2 : g 20 < (-1099511627776 : Int)) : FactsOk g facts6 :=
  ⟨fact_lt (decide_eq_false h0), fact_lt (decide_eq_false h1), fact_lt (decide_eq_true h2), trivial⟩
end Go.Proofs.Ytplojnnjkpeifaa.rotTurns

namespace Go.Proofs.Ytplojnnjkpeifaa.rotTurns
open Go SX
def facts7 : List (Bool × A × A × Bool) := [(false, .x 19, .k (-1099511627776), false), (false, .k 1099511627776, .x 19, false), (false, .x 20, .k (-1099511627776), false), (false, .k 1099511627776, .x 20, true)]
def ds7 : Defs := [
  (19, .conv .i64, [.x 8]),
  (20, .conv .i64, [.x 9])]
abbrev rv7 : A := .k 1
set_option maxRecDepth 1000000 in
theorem ran7 : lawH [.agg [some .i64, some .i64, some .i64, some .i64], .agg [some .i64, some .i64, some .i64, some .i64], .agg [some .i64, some .i64, some .i64]] facts7 ds7 rv7 (runPol lk U X sumsA never never0 100000 40 5 (startF [.agg [some .i64, some .i64, some .i64, some .i64], .agg [some .i64, some .i64, some .i64, some .i64], .agg [some .i64, some .i64, some .i64]] facts7).1 (startF [.agg [some .i64, some .i64, some .i64, some .i64], .agg [some .i64, some .i64, some .i64, some .i64], .agg [some .i64, some .i64, some .i64]] facts7).2) = true := by kernel_rfl
/-- What the names stand for. -/
theorem eqs7 {g : Sg} (h : EqsP g ds7) :
    (g 19 = wrapF .i64 (g 8)) ∧
    (g 20 = wrapF .i64 (g 9)) ∧ True := h
theorem told7 {g : Sg} (h0 : ¬ (g 19 < (-1099511627776 : Int))) (h1 : ¬ ((1099511627776 : Int) < g 19)) (h2 : ¬ (g 20 < (-1099511627776 : Int))) (h3 : (1099511627776 : Int) < g 20) : FactsOk g facts7 :=
  ⟨fact_lt (decide_eq_false h0), fact_lt (decide_eq_false h1), fact_lt (decide_eq_false h2), fact_lt (decide_eq_true h3), trivial⟩
end Go.Proofs.Ytplojnnjkpeifaa.rotTurns

namespace Go.Proofs.Ytplojnnjkpeifaa.rotTurns
open Go SX
def facts8 : List (Bool × A × A × Bool) := [(false, .x 19, .k (-1099511627776), false), (false, .k 1099511627776, .x 19, false), (false, .x 20, .k (-1099511627776), false), (false, .k 1099511627776, .x 20, false), (false, .x 21, .k (-1099511627776), true)]
def ds8 : Defs := [
  (19, .conv .i64, [.x 8]),
  (20, .conv .i64, [.x 9]),
  (21, .conv .i64, [.x 10])]
abbrev rv8 : A := .k 1
set_option maxRecDepth 1000000 in
theorem ran8 : lawH [.agg [some .i64, some .i64, some .i64, some .i64], .agg [some .i64, some .i64, some .i64, some .i64], .agg [some .i64, some .i64, some .i64]] facts8 ds8 rv8 (runPol lk U X sumsA never never0 100000 40 5 (startF [.agg [some .i64, some .i64, some .i64, some .i64], .agg [some .i64, some .i64, some .i64, some .i64], .agg [some .i64, some .i64, some .i64]] facts8).1 (startF [.agg [some .i64, some .i64, some .i64, some .i64], .agg [some .i64, some .i64, some .i64, some .i64], .agg [some .i64, some .i64, some .i64]] facts8).2) = true := by kernel_rfl
/-- What the names stand for. -/
theorem eqs8 {g : Sg} (h : EqsP g ds8) :
    (g 19 = wrapF .i64 (g 8)) ∧
    (g 20 = wrapF .i64 (g 9)) ∧
    (g 21 = wrapF .i64 (g 10)) ∧ True := h
theorem told8 {g : Sg} (h0 : ¬ (g 19 < (-1099511627776 : Int))) (h1 : ¬ ((1099511627776 : Int) < g 19)) (h2 : ¬ (g 20 < (-1099511627776 : Int))) (h3 : ¬ ((1099511627776 : Int) < g 20)) (h4 : g 21 < (-1099511627776 : Int)) : FactsOk g facts8 :=
  ⟨fact_lt (decide_eq_false h0), fact_lt (decide_eq_false h1), fact_lt (decide_eq_false h2), fact_lt (decide_eq_false h3), fact_lt (decide_eq_true h4), trivial⟩
end Go.Proofs.Ytplojnnjkpeifaa.rotTurns

namespace Go.Proofs.Ytplojnnjkpeifaa.rotTurns
open Go SX
def facts9 : List (Bool × A × A × Bool) := [(false, .x 19, .k (-1099511627776), false), (false, .k 1099511627776, .x 19, false), (false, .x 20, .k (-1099511627776), false), (false, .k 1099511627776, .x 20, false), (false, .x 21, .k (-1099511627776), false), (false, .k 1099511627776, .x 21, true)]
def ds9 : Defs := [
  (19, .conv .i64, [.x 8]),
  (20, .conv .i64, [.x 9]),
  (21, .conv .i64, [.x 10])]
abbrev rv9 : A := .k 1
set_option maxRecDepth 1000000 in
theorem ran9 : lawH [.agg [some .i64, some .i64, some .i64, some .i64], .agg [some .i64, some .i64, some .i64, some .i64], .agg [some .i64, some .i64, some .i64]] facts9 ds9 rv9 (runPol lk U X sumsA never never0 100000 40 5 (startF [.agg [some .i64, some .i64, some .i64, some .i64], .agg [some .i64, some .i64, some .i64, some .i64], .agg [some .i64, some .i64, some .i64]] facts9).1 (startF [.agg [some .i64, some .i64, some .i64, some .i64], .agg [some .i64, some .i64, some .i64, some .i64], .agg [some .i64, some .i64, some .i64]] facts9).2) = true := by kernel_rfl
/-- What the names stand for. -/
theorem eqs9 {g : Sg} (h : EqsP g ds9) :
    (g 19 = wrapF .i64 (g 8)) ∧
    (g 20 = wrapF .i64 (g 9)) ∧
    (g 21 = wrapF .i64 (g 10)) ∧ True := h
theorem told9 {g : Sg} (h0 : ¬ (g 19 < (-1099511627776 : Int))) (h1 : ¬ ((1099511627776 : Int) < g 19)) (h2 : ¬ (g 20 < (-1099511627776 : Int))) (h3 : ¬ ((1099511627776 : Int) < g 20)) (h4 : ¬ (g 21 < (-1099511627776 : Int))) (h5 : (1099511627776 : Int) < g 21) : FactsOk g facts9 :=
  ⟨fact_lt (decide_eq_false h0), fact_lt (decide_eq_false h1), fact_lt (decide_eq_false h2), fact_lt (decide_eq_false h3), fact_lt (decide_eq_false h4), fact_lt (decide_eq_true h5), trivial⟩
end Go.Proofs.Ytplojnnjkpeifaa.rotTurns
