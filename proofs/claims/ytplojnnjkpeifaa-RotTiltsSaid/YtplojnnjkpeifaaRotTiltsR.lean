/- astrolabelaw7.RotTilts, run with facts told ahead, case by case. -/
import Derived.Test.YtplojnnjkpeifaaSxHa
import Derived.Test.YtplojnnjkpeifaaAwakes
namespace Go.Proofs.Ytplojnnjkpeifaa.rotTilts
open Go SX
def facts0 : List (Bool × A × A × Bool) := [(false, .x 3, .k (-549755813888), false), (false, .k 549755813888, .x 3, false), (false, .x 4, .k (-549755813888), false), (false, .k 549755813888, .x 4, false), (false, .x 5, .k (-549755813888), false), (false, .k 549755813888, .x 5, false), (false, .x 12, .k 16777216, false), (false, .k 16, .x 22, true), (false, .x 22, .k 1048576, true)]
def ds0 : Defs := [
  (3, .conv .i64, [.x 0]),
  (4, .conv .i64, [.x 1]),
  (5, .conv .i64, [.x 2]),
  (12, .u 32, [.x 3, .x 4, .x 5]),
  (14, .u 4, [.x 3, .x 12, .k 30]),
  (15, .u 4, [.x 4, .x 12, .k 30]),
  (16, .u 4, [.x 5, .x 12, .k 30]),
  (17, .cmp .eql, [.x 3, .k 0]),
  (18, .cmp .eql, [.x 4, .k 0]),
  (19, .sel, [.x 17, .x 18, .k 0]),
  (20, .cmp .eql, [.x 5, .k 0]),
  (21, .sel, [.x 19, .x 20, .k 0]),
  (22, .lin (1073741824) [(-1)], [.x 16]),
  (24, .lin (0) [(-1)], [.x 15]),
  (28, .u 32, [.x 22, .x 24, .x 14]),
  (29, .u 4, [.x 22, .x 28, .k 30]),
  (31, .u 4, [.x 24, .x 28, .k 30]),
  (34, .u 4, [.x 14, .x 28, .k 30]),
  (39, .u 32, [.x 29, .x 31, .x 34]),
  (40, .u 4, [.x 29, .x 39, .k 30]),
  (43, .u 4, [.x 31, .x 39, .k 30]),
  (46, .u 4, [.x 34, .x 39, .k 30]),
  (56, .u 16, [.k 30, .x 40, .x 46, .x 40, .x 46]),
  (58, .u 16, [.k 30, .x 40, .x 43, .x 40, .x 43]),
  (61, .u 18, [.k 30, .k 1, .x 40, .x 40, .x 43, .x 43, .x 46, .x 46]),
  (64, .u 18, [.k 30, .k 1, .x 14, .x 56, .x 15, .x 58, .x 16, .x 61]),
  (65, .lin (0) [(-1)], [.x 64]),
  (67, .cmp .lss, [.k (-1073737728), .x 65]),
  (68, .not, [.x 67])]
abbrev rv0 : A := .x 68
def cs0 : List (Nat × Bool) := [(21, false)]
set_option maxRecDepth 1000000 in
theorem ran0 : lawQ [.agg [some .i64, some .i64, some .i64]] facts0 cs0 ds0 rv0 (runPol lk U X sumsA never never0 100000 40 7 (startF [.agg [some .i64, some .i64, some .i64]] facts0).1 { (startF [.agg [some .i64, some .i64, some .i64]] facts0).2 with orc := [false] }) = true := by kernel_rfl
/-- What the names stand for. -/
theorem eqs0 {g : Sg} (h : EqsP g ds0) :
    (g 3 = wrapF .i64 (g 0)) ∧
    (g 4 = wrapF .i64 (g 1)) ∧
    (g 5 = wrapF .i64 (g 2)) ∧
    (g 12 = U 32 [g 3, g 4, g 5]) ∧
    (g 14 = U 4 [g 3, g 12, (30)]) ∧
    (g 15 = U 4 [g 4, g 12, (30)]) ∧
    (g 16 = U 4 [g 5, g 12, (30)]) ∧
    (g 17 = b2i (cmpF .eql (g 3) ((0)))) ∧
    (g 18 = b2i (cmpF .eql (g 4) ((0)))) ∧
    (g 19 = bif ieq (g 17) 1 then g 18 else (0)) ∧
    (g 20 = b2i (cmpF .eql (g 5) ((0)))) ∧
    (g 21 = bif ieq (g 19) 1 then g 20 else (0)) ∧
    (g 22 = (-1) * g 16 + (1073741824)) ∧
    (g 24 = (-1) * g 15 + (0)) ∧
    (g 28 = U 32 [g 22, g 24, g 14]) ∧
    (g 29 = U 4 [g 22, g 28, (30)]) ∧
    (g 31 = U 4 [g 24, g 28, (30)]) ∧
    (g 34 = U 4 [g 14, g 28, (30)]) ∧
    (g 39 = U 32 [g 29, g 31, g 34]) ∧
    (g 40 = U 4 [g 29, g 39, (30)]) ∧
    (g 43 = U 4 [g 31, g 39, (30)]) ∧
    (g 46 = U 4 [g 34, g 39, (30)]) ∧
    (g 56 = U 16 [(30), g 40, g 46, g 40, g 46]) ∧
    (g 58 = U 16 [(30), g 40, g 43, g 40, g 43]) ∧
    (g 61 = U 18 [(30), (1), g 40, g 40, g 43, g 43, g 46, g 46]) ∧
    (g 64 = U 18 [(30), (1), g 14, g 56, g 15, g 58, g 16, g 61]) ∧
    (g 65 = (-1) * g 64 + (0)) ∧
    (g 67 = b2i (cmpF .lss ((-1073737728)) (g 65))) ∧
    (g 68 = b2i (!ieq (g 67) 1)) ∧ True := h
theorem told0 {g : Sg} (h0 : ¬ (g 3 < (-549755813888 : Int))) (h1 : ¬ ((549755813888 : Int) < g 3)) (h2 : ¬ (g 4 < (-549755813888 : Int))) (h3 : ¬ ((549755813888 : Int) < g 4)) (h4 : ¬ (g 5 < (-549755813888 : Int))) (h5 : ¬ ((549755813888 : Int) < g 5)) (h6 : ¬ (g 12 < (16777216 : Int))) (h7 : (16 : Int) < g 22) (h8 : g 22 < (1048576 : Int)) : FactsOk g facts0 :=
  ⟨fact_lt (decide_eq_false h0), fact_lt (decide_eq_false h1), fact_lt (decide_eq_false h2), fact_lt (decide_eq_false h3), fact_lt (decide_eq_false h4), fact_lt (decide_eq_false h5), fact_lt (decide_eq_false h6), fact_lt (decide_eq_true h7), fact_lt (decide_eq_true h8), trivial⟩
end Go.Proofs.Ytplojnnjkpeifaa.rotTilts

namespace Go.Proofs.Ytplojnnjkpeifaa.rotTilts
open Go SX
def facts1 : List (Bool × A × A × Bool) := [(false, .x 3, .k (-549755813888), false), (false, .k 549755813888, .x 3, false), (false, .x 4, .k (-549755813888), false), (false, .k 549755813888, .x 4, false), (false, .x 5, .k (-549755813888), false), (false, .k 549755813888, .x 5, false), (false, .x 12, .k 16777216, false), (false, .k 16, .x 22, true), (false, .x 22, .k 1048576, false), (false, .k 4096, .x 62, false), (false, .x 62, .k (-4096), false), (false, .k 4096, .x 63, false), (false, .x 63, .k (-4096), false), (false, .k 4096, .x 71, false), (false, .x 71, .k (-4096), false)]
def ds1 : Defs := [
  (3, .conv .i64, [.x 0]),
  (4, .conv .i64, [.x 1]),
  (5, .conv .i64, [.x 2]),
  (12, .u 32, [.x 3, .x 4, .x 5]),
  (14, .u 4, [.x 3, .x 12, .k 30]),
  (15, .u 4, [.x 4, .x 12, .k 30]),
  (16, .u 4, [.x 5, .x 12, .k 30]),
  (17, .cmp .eql, [.x 3, .k 0]),
  (18, .cmp .eql, [.x 4, .k 0]),
  (19, .sel, [.x 17, .x 18, .k 0]),
  (20, .cmp .eql, [.x 5, .k 0]),
  (21, .sel, [.x 19, .x 20, .k 0]),
  (22, .lin (1073741824) [(-1)], [.x 16]),
  (24, .lin (0) [(-1)], [.x 15]),
  (28, .u 32, [.x 22, .x 24, .x 14]),
  (29, .u 4, [.x 22, .x 28, .k 30]),
  (31, .u 4, [.x 24, .x 28, .k 30]),
  (34, .u 4, [.x 14, .x 28, .k 30]),
  (39, .u 32, [.x 29, .x 31, .x 34]),
  (40, .u 4, [.x 29, .x 39, .k 30]),
  (43, .u 4, [.x 31, .x 39, .k 30]),
  (46, .u 4, [.x 34, .x 39, .k 30]),
  (54, .u 18, [.k 30, .k 2, .x 40, .x 40, .x 43, .x 43, .x 46, .x 46]),
  (55, .u 16, [.k 30, .x 43, .x 46, .x 43, .x 46]),
  (56, .u 16, [.k 30, .x 40, .x 46, .x 40, .x 46]),
  (57, .u 18, [.k 30, .k 2, .x 40, .x 40, .x 46, .x 46, .x 43, .x 43]),
  (58, .u 16, [.k 30, .x 40, .x 43, .x 40, .x 43]),
  (61, .u 18, [.k 30, .k 1, .x 40, .x 40, .x 43, .x 43, .x 46, .x 46]),
  (62, .u 16, [.k 30, .x 14, .x 54, .x 15, .x 55, .x 16, .x 56]),
  (63, .u 18, [.k 30, .k 2, .x 14, .x 55, .x 15, .x 57, .x 16, .x 58]),
  (64, .u 18, [.k 30, .k 1, .x 14, .x 56, .x 15, .x 58, .x 16, .x 61]),
  (71, .lin (1073741824) [(-1)], [.x 64])]
abbrev rv1 : A := .k 1
def cs1 : List (Nat × Bool) := [(21, false)]
set_option maxRecDepth 1000000 in
theorem ran1 : lawQ [.agg [some .i64, some .i64, some .i64]] facts1 cs1 ds1 rv1 (runPol lk U X sumsA never never0 100000 40 7 (startF [.agg [some .i64, some .i64, some .i64]] facts1).1 { (startF [.agg [some .i64, some .i64, some .i64]] facts1).2 with orc := [false] }) = true := by kernel_rfl
/-- What the names stand for. -/
theorem eqs1 {g : Sg} (h : EqsP g ds1) :
    (g 3 = wrapF .i64 (g 0)) ∧
    (g 4 = wrapF .i64 (g 1)) ∧
    (g 5 = wrapF .i64 (g 2)) ∧
    (g 12 = U 32 [g 3, g 4, g 5]) ∧
    (g 14 = U 4 [g 3, g 12, (30)]) ∧
    (g 15 = U 4 [g 4, g 12, (30)]) ∧
    (g 16 = U 4 [g 5, g 12, (30)]) ∧
    (g 17 = b2i (cmpF .eql (g 3) ((0)))) ∧
    (g 18 = b2i (cmpF .eql (g 4) ((0)))) ∧
    (g 19 = bif ieq (g 17) 1 then g 18 else (0)) ∧
    (g 20 = b2i (cmpF .eql (g 5) ((0)))) ∧
    (g 21 = bif ieq (g 19) 1 then g 20 else (0)) ∧
    (g 22 = (-1) * g 16 + (1073741824)) ∧
    (g 24 = (-1) * g 15 + (0)) ∧
    (g 28 = U 32 [g 22, g 24, g 14]) ∧
    (g 29 = U 4 [g 22, g 28, (30)]) ∧
    (g 31 = U 4 [g 24, g 28, (30)]) ∧
    (g 34 = U 4 [g 14, g 28, (30)]) ∧
    (g 39 = U 32 [g 29, g 31, g 34]) ∧
    (g 40 = U 4 [g 29, g 39, (30)]) ∧
    (g 43 = U 4 [g 31, g 39, (30)]) ∧
    (g 46 = U 4 [g 34, g 39, (30)]) ∧
    (g 54 = U 18 [(30), (2), g 40, g 40, g 43, g 43, g 46, g 46]) ∧
    (g 55 = U 16 [(30), g 43, g 46, g 43, g 46]) ∧
    (g 56 = U 16 [(30), g 40, g 46, g 40, g 46]) ∧
    (g 57 = U 18 [(30), (2), g 40, g 40, g 46, g 46, g 43, g 43]) ∧
    (g 58 = U 16 [(30), g 40, g 43, g 40, g 43]) ∧
    (g 61 = U 18 [(30), (1), g 40, g 40, g 43, g 43, g 46, g 46]) ∧
    (g 62 = U 16 [(30), g 14, g 54, g 15, g 55, g 16, g 56]) ∧
    (g 63 = U 18 [(30), (2), g 14, g 55, g 15, g 57, g 16, g 58]) ∧
    (g 64 = U 18 [(30), (1), g 14, g 56, g 15, g 58, g 16, g 61]) ∧
    (g 71 = (-1) * g 64 + (1073741824)) ∧ True := h
theorem told1 {g : Sg} (h0 : ¬ (g 3 < (-549755813888 : Int))) (h1 : ¬ ((549755813888 : Int) < g 3)) (h2 : ¬ (g 4 < (-549755813888 : Int))) (h3 : ¬ ((549755813888 : Int) < g 4)) (h4 : ¬ (g 5 < (-549755813888 : Int))) (h5 : ¬ ((549755813888 : Int) < g 5)) (h6 : ¬ (g 12 < (16777216 : Int))) (h7 : (16 : Int) < g 22) (h8 : ¬ (g 22 < (1048576 : Int))) (h9 : ¬ ((4096 : Int) < g 62)) (h10 : ¬ (g 62 < (-4096 : Int))) (h11 : ¬ ((4096 : Int) < g 63)) (h12 : ¬ (g 63 < (-4096 : Int))) (h13 : ¬ ((4096 : Int) < g 71)) (h14 : ¬ (g 71 < (-4096 : Int))) : FactsOk g facts1 :=
  ⟨fact_lt (decide_eq_false h0), fact_lt (decide_eq_false h1), fact_lt (decide_eq_false h2), fact_lt (decide_eq_false h3), fact_lt (decide_eq_false h4), fact_lt (decide_eq_false h5), fact_lt (decide_eq_false h6), fact_lt (decide_eq_true h7), fact_lt (decide_eq_false h8), fact_lt (decide_eq_false h9), fact_lt (decide_eq_false h10), fact_lt (decide_eq_false h11), fact_lt (decide_eq_false h12), fact_lt (decide_eq_false h13), fact_lt (decide_eq_false h14), trivial⟩
end Go.Proofs.Ytplojnnjkpeifaa.rotTilts

namespace Go.Proofs.Ytplojnnjkpeifaa.rotTilts
open Go SX
def facts2 : List (Bool × A × A × Bool) := [(false, .x 3, .k (-549755813888), false), (false, .k 549755813888, .x 3, false), (false, .x 4, .k (-549755813888), false), (false, .k 549755813888, .x 4, false), (false, .x 5, .k (-549755813888), false), (false, .k 549755813888, .x 5, false), (false, .x 12, .k 16777216, true)]
def ds2 : Defs := [
  (3, .conv .i64, [.x 0]),
  (4, .conv .i64, [.x 1]),
  (5, .conv .i64, [.x 2]),
  (12, .u 32, [.x 3, .x 4, .x 5])]
abbrev rv2 : A := .k 1
set_option maxRecDepth 1000000 in
theorem ran2 : lawH [.agg [some .i64, some .i64, some .i64]] facts2 ds2 rv2 (runPol lk U X sumsA never never0 100000 40 7 (startF [.agg [some .i64, some .i64, some .i64]] facts2).1 (startF [.agg [some .i64, some .i64, some .i64]] facts2).2) = true := by kernel_rfl
/-- What the names stand for. -/
theorem eqs2 {g : Sg} (h : EqsP g ds2) :
    (g 3 = wrapF .i64 (g 0)) ∧
    (g 4 = wrapF .i64 (g 1)) ∧
    (g 5 = wrapF .i64 (g 2)) ∧
    (g 12 = U 32 [g 3, g 4, g 5]) ∧ True := h
theorem told2 {g : Sg} (h0 : ¬ (g 3 < (-549755813888 : Int))) (h1 : ¬ ((549755813888 : Int) < g 3)) (h2 : ¬ (g 4 < (-549755813888 : Int))) (h3 : ¬ ((549755813888 : Int) < g 4)) (h4 : ¬ (g 5 < (-549755813888 : Int))) (h5 : ¬ ((549755813888 : Int) < g 5)) (h6 : g 12 < (16777216 : Int)) : FactsOk g facts2 :=
  ⟨fact_lt (decide_eq_false h0), fact_lt (decide_eq_false h1), fact_lt (decide_eq_false h2), fact_lt (decide_eq_false h3), fact_lt (decide_eq_false h4), fact_lt (decide_eq_false h5), fact_lt (decide_eq_true h6), trivial⟩
end Go.Proofs.Ytplojnnjkpeifaa.rotTilts

namespace Go.Proofs.Ytplojnnjkpeifaa.rotTilts
open Go SX
def facts3 : List (Bool × A × A × Bool) := [(false, .x 3, .k (-549755813888), true)]
def ds3 : Defs := [
  (3, .conv .i64, [.x 0])]
abbrev rv3 : A := .k 1
set_option maxRecDepth 1000000 in
theorem ran3 : lawH [.agg [some .i64, some .i64, some .i64]] facts3 ds3 rv3 (runPol lk U X sumsA never never0 100000 40 7 (startF [.agg [some .i64, some .i64, some .i64]] facts3).1 (startF [.agg [some .i64, some .i64, some .i64]] facts3).2) = true := by kernel_rfl
/-- What the names stand for. -/
theorem eqs3 {g : Sg} (h : EqsP g ds3) :
    (g 3 = wrapF .i64 (g 0)) ∧ True := h
theorem told3 {g : Sg} (h0 : g 3 < (-549755813888 : Int)) : FactsOk g facts3 :=
  ⟨fact_lt (decide_eq_true h0), trivial⟩
end Go.Proofs.Ytplojnnjkpeifaa.rotTilts

namespace Go.Proofs.Ytplojnnjkpeifaa.rotTilts
open Go SX
def facts4 : List (Bool × A × A × Bool) := [(false, .x 3, .k (-549755813888), false), (false, .k 549755813888, .x 3, true)]
def ds4 : Defs := [
  (3, .conv .i64, [.x 0])]
abbrev rv4 : A := .k 1
set_option maxRecDepth 1000000 in
theorem ran4 : lawH [.agg [some .i64, some .i64, some .i64]] facts4 ds4 rv4 (runPol lk U X sumsA never never0 100000 40 7 (startF [.agg [some .i64, some .i64, some .i64]] facts4).1 (startF [.agg [some .i64, some .i64, some .i64]] facts4).2) = true := by kernel_rfl
/-- What the names stand for. -/
theorem eqs4 {g : Sg} (h : EqsP g ds4) :
    (g 3 = wrapF .i64 (g 0)) ∧ True := h
theorem told4 {g : Sg} (h0 : ¬ (g 3 < (-549755813888 : Int))) (h1 : (549755813888 : Int) < g 3) : FactsOk g facts4 :=
  ⟨fact_lt (decide_eq_false h0), fact_lt (decide_eq_true h1), trivial⟩
end Go.Proofs.Ytplojnnjkpeifaa.rotTilts

namespace Go.Proofs.Ytplojnnjkpeifaa.rotTilts
open Go SX
def facts5 : List (Bool × A × A × Bool) := [(false, .x 3, .k (-549755813888), false), (false, .k 549755813888, .x 3, false), (false, .x 4, .k (-549755813888), true)]
def ds5 : Defs := [
  (3, .conv .i64, [.x 0]),
  (4, .conv .i64, [.x 1])]
abbrev rv5 : A := .k 1
set_option maxRecDepth 1000000 in
theorem ran5 : lawH [.agg [some .i64, some .i64, some .i64]] facts5 ds5 rv5 (runPol lk U X sumsA never never0 100000 40 7 (startF [.agg [some .i64, some .i64, some .i64]] facts5).1 (startF [.agg [some .i64, some .i64, some .i64]] facts5).2) = true := by kernel_rfl
/-- What the names stand for. -/
theorem eqs5 {g : Sg} (h : EqsP g ds5) :
    (g 3 = wrapF .i64 (g 0)) ∧
    (g 4 = wrapF .i64 (g 1)) ∧ True := h
theorem told5 {g : Sg} (h0 : ¬ (g 3 < (-549755813888 : Int))) (h1 : ¬ ((549755813888 : Int) < g 3)) (h2 : g 4 < (-549755813888 : Int)) : FactsOk g facts5 :=
  ⟨fact_lt (decide_eq_false h0), fact_lt (decide_eq_false h1), fact_lt (decide_eq_true h2), trivial⟩
end Go.Proofs.Ytplojnnjkpeifaa.rotTilts

namespace Go.Proofs.Ytplojnnjkpeifaa.rotTilts
open Go SX
def facts6 : List (Bool × A × A × Bool) := [(false, .x 3, .k (-549755813888), false), (false, .k 549755813888, .x 3, false), (false, .x 4, .k (-549755813888), false), (false, .k 549755813888, .x 4, true)]
def ds6 : Defs := [
  (3, .conv .i64, [.x 0]),
  (4, .conv .i64, [.x 1])]
abbrev rv6 : A := .k 1
set_option maxRecDepth 1000000 in
theorem ran6 : lawH [.agg [some .i64, some .i64, some .i64]] facts6 ds6 rv6 (runPol lk U X sumsA never never0 100000 40 7 (startF [.agg [some .i64, some .i64, some .i64]] facts6).1 (startF [.agg [some .i64, some .i64, some .i64]] facts6).2) = true := by kernel_rfl
/-- What the names stand for. -/
theorem eqs6 {g : Sg} (h : EqsP g ds6) :
    (g 3 = wrapF .i64 (g 0)) ∧
    (g 4 = wrapF .i64 (g 1)) ∧ True := h
theorem told6 {g : Sg} (h0 : ¬ (g 3 < (-549755813888 : Int))) (h1 : ¬ ((549755813888 : Int) < g 3)) (h2 : ¬ (g 4 < (-549755813888 : Int))) (h3 : (549755813888 : Int) < g 4) : FactsOk g facts6 :=
  ⟨fact_lt (decide_eq_false h0), fact_lt (decide_eq_false h1), fact_lt (decide_eq_false h2), fact_lt (decide_eq_true h3), trivial⟩
end Go.Proofs.Ytplojnnjkpeifaa.rotTilts

namespace Go.Proofs.Ytplojnnjkpeifaa.rotTilts
open Go SX
def facts7 : List (Bool × A × A × Bool) := [(false, .x 3, .k (-549755813888), false), (false, .k 549755813888, .x 3, false), (false, .x 4, .k (-549755813888), false), (false, .k 549755813888, .x 4, false), (false, .x 5, .k (-549755813888), true)]
def ds7 : Defs := [
  (3, .conv .i64, [.x 0]),
  (4, .conv .i64, [.x 1]),
  (5, .conv .i64, [.x 2])]
abbrev rv7 : A := .k 1
set_option maxRecDepth 1000000 in
theorem ran7 : lawH [.agg [some .i64, some .i64, some .i64]] facts7 ds7 rv7 (runPol lk U X sumsA never never0 100000 40 7 (startF [.agg [some .i64, some .i64, some .i64]] facts7).1 (startF [.agg [some .i64, some .i64, some .i64]] facts7).2) = true := by kernel_rfl
/-- What the names stand for. -/
theorem eqs7 {g : Sg} (h : EqsP g ds7) :
    (g 3 = wrapF .i64 (g 0)) ∧
    (g 4 = wrapF .i64 (g 1)) ∧
    (g 5 = wrapF .i64 (g 2)) ∧ True := h
theorem told7 {g : Sg} (h0 : ¬ (g 3 < (-549755813888 : Int))) (h1 : ¬ ((549755813888 : Int) < g 3)) (h2 : ¬ (g 4 < (-549755813888 : Int))) (h3 : ¬ ((549755813888 : Int) < g 4)) (h4 : g 5 < (-549755813888 : Int)) : FactsOk g facts7 :=
  ⟨fact_lt (decide_eq_false h0), fact_lt (decide_eq_false h1), fact_lt (decide_eq_false h2), fact_lt (decide_eq_false h3), fact_lt (decide_eq_true h4), trivial⟩
end Go.Proofs.Ytplojnnjkpeifaa.rotTilts

namespace Go.Proofs.Ytplojnnjkpeifaa.rotTilts
open Go SX
def facts8 : List (Bool × A × A × Bool) := [(false, .x 3, .k (-549755813888), false), (false, .k 549755813888, .x 3, false), (false, .x 4, .k (-549755813888), false), (false, .k 549755813888, .x 4, false), (false, .x 5, .k (-549755813888), false), (false, .k 549755813888, .x 5, true)]
def ds8 : Defs := [
  (3, .conv .i64, [.x 0]),
  (4, .conv .i64, [.x 1]),
  (5, .conv .i64, [.x 2])]
abbrev rv8 : A := .k 1
set_option maxRecDepth 1000000 in
theorem ran8 : lawH [.agg [some .i64, some .i64, some .i64]] facts8 ds8 rv8 (runPol lk U X sumsA never never0 100000 40 7 (startF [.agg [some .i64, some .i64, some .i64]] facts8).1 (startF [.agg [some .i64, some .i64, some .i64]] facts8).2) = true := by kernel_rfl
/-- What the names stand for. -/
theorem eqs8 {g : Sg} (h : EqsP g ds8) :
    (g 3 = wrapF .i64 (g 0)) ∧
    (g 4 = wrapF .i64 (g 1)) ∧
    (g 5 = wrapF .i64 (g 2)) ∧ True := h
theorem told8 {g : Sg} (h0 : ¬ (g 3 < (-549755813888 : Int))) (h1 : ¬ ((549755813888 : Int) < g 3)) (h2 : ¬ (g 4 < (-549755813888 : Int))) (h3 : ¬ ((549755813888 : Int) < g 4)) (h4 : ¬ (g 5 < (-549755813888 : Int))) (h5 : (549755813888 : Int) < g 5) : FactsOk g facts8 :=
  ⟨fact_lt (decide_eq_false h0), fact_lt (decide_eq_false h1), fact_lt (decide_eq_false h2), fact_lt (decide_eq_false h3), fact_lt (decide_eq_false h4), fact_lt (decide_eq_true h5), trivial⟩
end Go.Proofs.Ytplojnnjkpeifaa.rotTilts

namespace Go.Proofs.Ytplojnnjkpeifaa.rotTilts
open Go SX
def facts9 : List (Bool × A × A × Bool) := [(false, .x 3, .k (-549755813888), false), (false, .k 549755813888, .x 3, false), (false, .x 4, .k (-549755813888), false), (false, .k 549755813888, .x 4, false), (false, .x 5, .k (-549755813888), false), (false, .k 549755813888, .x 5, false), (false, .x 12, .k 16777216, false), (false, .k 16, .x 22, false)]
def ds9 : Defs := [
  (3, .conv .i64, [.x 0]),
  (4, .conv .i64, [.x 1]),
  (5, .conv .i64, [.x 2]),
  (12, .u 32, [.x 3, .x 4, .x 5]),
  (16, .u 4, [.x 5, .x 12, .k 30]),
  (17, .cmp .eql, [.x 3, .k 0]),
  (18, .cmp .eql, [.x 4, .k 0]),
  (19, .sel, [.x 17, .x 18, .k 0]),
  (20, .cmp .eql, [.x 5, .k 0]),
  (21, .sel, [.x 19, .x 20, .k 0]),
  (22, .lin (1073741824) [(-1)], [.x 16]),
  (25, .lin (0) [(-1)], [.x 16]),
  (27, .cmp .lss, [.k (-1073737728), .x 25]),
  (28, .not, [.x 27])]
abbrev rv9 : A := .x 28
def cs9 : List (Nat × Bool) := [(21, false)]
set_option maxRecDepth 1000000 in
theorem ran9 : lawQ [.agg [some .i64, some .i64, some .i64]] facts9 cs9 ds9 rv9 (runPol lk U X sumsA never never0 100000 40 7 (startF [.agg [some .i64, some .i64, some .i64]] facts9).1 { (startF [.agg [some .i64, some .i64, some .i64]] facts9).2 with orc := [false] }) = true := by kernel_rfl
/-- What the names stand for. -/
theorem eqs9 {g : Sg} (h : EqsP g ds9) :
    (g 3 = wrapF .i64 (g 0)) ∧
    (g 4 = wrapF .i64 (g 1)) ∧
    (g 5 = wrapF .i64 (g 2)) ∧
    (g 12 = U 32 [g 3, g 4, g 5]) ∧
    (g 16 = U 4 [g 5, g 12, (30)]) ∧
    (g 17 = b2i (cmpF .eql (g 3) ((0)))) ∧
    (g 18 = b2i (cmpF .eql (g 4) ((0)))) ∧
    (g 19 = bif ieq (g 17) 1 then g 18 else (0)) ∧
    (g 20 = b2i (cmpF .eql (g 5) ((0)))) ∧
    (g 21 = bif ieq (g 19) 1 then g 20 else (0)) ∧
    (g 22 = (-1) * g 16 + (1073741824)) ∧
    (g 25 = (-1) * g 16 + (0)) ∧
    (g 27 = b2i (cmpF .lss ((-1073737728)) (g 25))) ∧
    (g 28 = b2i (!ieq (g 27) 1)) ∧ True := h
theorem told9 {g : Sg} (h0 : ¬ (g 3 < (-549755813888 : Int))) (h1 : ¬ ((549755813888 : Int) < g 3)) (h2 : ¬ (g 4 < (-549755813888 : Int))) (h3 : ¬ ((549755813888 : Int) < g 4)) (h4 : ¬ (g 5 < (-549755813888 : Int))) (h5 : ¬ ((549755813888 : Int) < g 5)) (h6 : ¬ (g 12 < (16777216 : Int))) (h7 : ¬ ((16 : Int) < g 22)) : FactsOk g facts9 :=
  ⟨fact_lt (decide_eq_false h0), fact_lt (decide_eq_false h1), fact_lt (decide_eq_false h2), fact_lt (decide_eq_false h3), fact_lt (decide_eq_false h4), fact_lt (decide_eq_false h5), fact_lt (decide_eq_false h6), fact_lt (decide_eq_false h7), trivial⟩
end Go.Proofs.Ytplojnnjkpeifaa.rotTilts
