/- What the runner comes to over astrolabelaw3.RootHolds. -/
import Derived.Test.YtahedampmjfoeaaSxP
namespace Go.Proofs.Ytahedampmjfoeaa.rootHolds
open Go SX
def negD : List (Nat × Pr × List A) := [(82, Pr.cmp BinOp.eql, [A.x 32, A.x 79]), (81, Pr.sel, [A.x 71, A.k (Int.ofNat 1), A.x 80]), (80, Pr.u 1, [A.x 76]), (79, Pr.u 0, [A.x 76]), (78, Pr.not, [A.x 77]), (77, Pr.u 27, [A.x 72]), (76, Pr.u 26, [A.x 72]), (75, Pr.u 22, [A.x 72]), (74, Pr.u 21, [A.x 72]), (73, Pr.u 25, [A.x 67, A.x 22]), (72, Pr.u 24, [A.x 67, A.x 22]), (71, Pr.sel, [A.x 63, A.k (Int.ofNat 1), A.x 20]), (70, Pr.u 22, [A.x 67]), (69, Pr.u 21, [A.x 67]), (68, Pr.u 25, [A.k (Int.ofNat 0), A.x 64]), (67, Pr.u 24, [A.k (Int.ofNat 0), A.x 64]), (66, Pr.u 22, [A.x 64]), (65, Pr.u 21, [A.x 64]), (64, Pr.u 20, [A.x 61, A.x 61]), (63, Pr.sel, [A.x 58, A.k (Int.ofNat 1), A.x 62]), (62, Pr.u 1, [A.x 60]), (61, Pr.u 0, [A.x 60]), (60, Pr.iop BinOp.sub IntKind.i64, [A.k (Int.ofNat 0), A.x 4]), (59, Pr.cmp BinOp.eql, [A.x 32, A.x 56]), (58, Pr.sel, [A.x 48, A.k (Int.ofNat 1), A.x 57]), (57, Pr.u 1, [A.x 53]), (56, Pr.u 0, [A.x 53]), (55, Pr.not, [A.x 54]), (54, Pr.u 27, [A.x 49]), (53, Pr.u 26, [A.x 49]), (52, Pr.u 22, [A.x 49]), (51, Pr.u 21, [A.x 49]), (50, Pr.u 25, [A.x 44, A.x 12]), (49, Pr.u 24, [A.x 44, A.x 12]), (48, Pr.sel, [A.x 43, A.k (Int.ofNat 1), A.x 10]), (47, Pr.u 22, [A.x 44]), (46, Pr.u 21, [A.x 44]), (45, Pr.u 25, [A.k (Int.ofNat 0), A.x 22]), (44, Pr.u 24, [A.k (Int.ofNat 0), A.x 22]), (43, Pr.sel, [A.x 41, A.k (Int.ofNat 1), A.x 20]), (42, Pr.cmp BinOp.leq, [A.x 32, A.x 39]), (41, Pr.sel, [A.x 34, A.k (Int.ofNat 1), A.x 40]), (40, Pr.u 15, [A.x 35, A.x 37]), (39, Pr.u 14, [A.x 35, A.x 37]), (38, Pr.cmp BinOp.geq, [A.x 32, A.x 37]), (37, Pr.u 12, [A.x 6]), (36, Pr.cmp BinOp.geq, [A.x 32, A.x 35]), (35, Pr.u 12, [A.x 4]), (34, Pr.sel, [A.x 21, A.k (Int.ofNat 1), A.x 33]), (33, Pr.u 1, [A.x 29]), (32, Pr.u 0, [A.x 29]), (31, Pr.not, [A.x 30]), (30, Pr.u 27, [A.x 25]), (29, Pr.u 26, [A.x 25]), (28, Pr.u 22, [A.x 25]), (27, Pr.u 21, [A.x 25]), (26, Pr.u 25, [A.x 15, A.x 22]), (25, Pr.u 24, [A.x 15, A.x 22]), (24, Pr.u 22, [A.x 22]), (23, Pr.u 21, [A.x 22]), (22, Pr.u 20, [A.x 19, A.x 19]), (21, Pr.sel, [A.x 11, A.k (Int.ofNat 1), A.x 20]), (20, Pr.u 1, [A.x 6]), (19, Pr.u 0, [A.x 6]), (18, Pr.u 22, [A.x 15]), (17, Pr.u 21, [A.x 15]), (16, Pr.u 25, [A.k (Int.ofNat 0), A.x 12]), (15, Pr.u 24, [A.k (Int.ofNat 0), A.x 12]), (14, Pr.u 22, [A.x 12]), (13, Pr.u 21, [A.x 12]), (12, Pr.u 20, [A.x 9, A.x 9]), (11, Pr.sel, [A.x 8, A.k (Int.ofNat 1), A.x 10]), (10, Pr.u 1, [A.x 4]), (9, Pr.u 0, [A.x 4]), (8, Pr.sel, [A.x 5, A.k (Int.ofNat 1), A.x 7]), (7, Pr.u 1, [A.x 2]), (6, Pr.u 0, [A.x 2]), (5, Pr.u 1, [A.x 1]), (4, Pr.u 0, [A.x 1]), (3, Pr.cmp BinOp.geq, [A.x 0, A.k (Int.ofNat 0)])]
def negS : St := { heap := [], next := 194, resv := [], nv := 83, defs := negD, orc := [], cs := [(78, Bool.false), (59, Bool.true), (55, Bool.false), (42, Bool.true), (38, Bool.true), (36, Bool.true), (31, Bool.false), (3, Bool.false)] }
set_option maxRecDepth 100000 in
theorem neg_ran : runCall Try.prog U X sums 100000 40 8 [.w (.c (.i .i64 (.x 0))), .w (.c (.i .i64 (.x 1))), .w (.c (.i .i64 (.x 2)))] { st0 with nv := 3, orc := [false, false, true, true, true, false, true, false] } = some (V.w (W.c (C.b (A.x 82))), negS) := by kernel_rfl
theorem neg_wf : wfD 3 negS.nv negS.defs = true := by kernel_rfl
theorem neg_eqs {g : Sg} (hd : DefsOk U g negD) :
    (g 3 : Int) = b2i (cmpF .geq (g 0) 0) ∧
    (g 4 : Int) = satv (g 1) ∧
    (g 5 : Int) = b2i (sath (g 1)) ∧
    (g 6 : Int) = satv (g 2) ∧
    (g 7 : Int) = b2i (sath (g 2)) ∧
    (g 9 : Int) = satv (g 4) ∧
    (g 10 : Int) = b2i (sath (g 4)) ∧
    (g 12 : Int) = (g 9) * (g 9) ∧
    (g 15 : Int) = U 24 [0, g 12] ∧
    (g 16 : Int) = U 25 [0, g 12] ∧
    (g 19 : Int) = satv (g 6) ∧
    (g 20 : Int) = b2i (sath (g 6)) ∧
    (g 22 : Int) = (g 19) * (g 19) ∧
    (g 25 : Int) = U 24 [g 15, g 22] ∧
    (g 26 : Int) = U 25 [g 15, g 22] ∧
    (g 29 : Int) = U 26 [g 25] ∧
    (g 30 : Int) = U 27 [g 25] ∧
    (g 31 : Int) = b2i (!ieq (g 30) 1) ∧
    (g 32 : Int) = satv (g 29) ∧
    (g 33 : Int) = b2i (sath (g 29)) ∧
    (g 35 : Int) = absv (g 4) ∧
    (g 36 : Int) = b2i (cmpF .geq (g 32) (g 35)) ∧
    (g 37 : Int) = absv (g 6) ∧
    (g 38 : Int) = b2i (cmpF .geq (g 32) (g 37)) ∧
    (g 39 : Int) = U 14 [g 35, g 37] ∧
    (g 40 : Int) = U 15 [g 35, g 37] ∧
    (g 42 : Int) = b2i (cmpF .leq (g 32) (g 39)) ∧
    (g 44 : Int) = U 24 [0, g 22] ∧
    (g 45 : Int) = U 25 [0, g 22] ∧
    (g 49 : Int) = U 24 [g 44, g 12] ∧
    (g 50 : Int) = U 25 [g 44, g 12] ∧
    (g 53 : Int) = U 26 [g 49] ∧
    (g 54 : Int) = U 27 [g 49] ∧
    (g 55 : Int) = b2i (!ieq (g 54) 1) ∧
    (g 56 : Int) = satv (g 53) ∧
    (g 57 : Int) = b2i (sath (g 53)) ∧
    (g 59 : Int) = b2i (cmpF .eql (g 32) (g 56)) ∧
    (g 60 : Int) = wrapF .i64 (0 - (g 4)) ∧
    (g 61 : Int) = satv (g 60) ∧
    (g 62 : Int) = b2i (sath (g 60)) ∧
    (g 64 : Int) = (g 61) * (g 61) ∧
    (g 67 : Int) = U 24 [0, g 64] ∧
    (g 68 : Int) = U 25 [0, g 64] ∧
    (g 72 : Int) = U 24 [g 67, g 22] ∧
    (g 73 : Int) = U 25 [g 67, g 22] ∧
    (g 76 : Int) = U 26 [g 72] ∧
    (g 77 : Int) = U 27 [g 72] ∧
    (g 78 : Int) = b2i (!ieq (g 77) 1) ∧
    (g 79 : Int) = satv (g 76) ∧
    (g 80 : Int) = b2i (sath (g 76)) ∧
    (g 82 : Int) = b2i (cmpF .eql (g 32) (g 79)) :=
  ⟨hd _ (List.mem_of_getElem? (l := negD) (i := 79) rfl), hd _ (List.mem_of_getElem? (l := negD) (i := 78) rfl), hd _ (List.mem_of_getElem? (l := negD) (i := 77) rfl), hd _ (List.mem_of_getElem? (l := negD) (i := 76) rfl), hd _ (List.mem_of_getElem? (l := negD) (i := 75) rfl), hd _ (List.mem_of_getElem? (l := negD) (i := 73) rfl), hd _ (List.mem_of_getElem? (l := negD) (i := 72) rfl), hd _ (List.mem_of_getElem? (l := negD) (i := 70) rfl), hd _ (List.mem_of_getElem? (l := negD) (i := 67) rfl), hd _ (List.mem_of_getElem? (l := negD) (i := 66) rfl), hd _ (List.mem_of_getElem? (l := negD) (i := 63) rfl), hd _ (List.mem_of_getElem? (l := negD) (i := 62) rfl), hd _ (List.mem_of_getElem? (l := negD) (i := 60) rfl), hd _ (List.mem_of_getElem? (l := negD) (i := 57) rfl), hd _ (List.mem_of_getElem? (l := negD) (i := 56) rfl), hd _ (List.mem_of_getElem? (l := negD) (i := 53) rfl), hd _ (List.mem_of_getElem? (l := negD) (i := 52) rfl), hd _ (List.mem_of_getElem? (l := negD) (i := 51) rfl), hd _ (List.mem_of_getElem? (l := negD) (i := 50) rfl), hd _ (List.mem_of_getElem? (l := negD) (i := 49) rfl), hd _ (List.mem_of_getElem? (l := negD) (i := 47) rfl), hd _ (List.mem_of_getElem? (l := negD) (i := 46) rfl), hd _ (List.mem_of_getElem? (l := negD) (i := 45) rfl), hd _ (List.mem_of_getElem? (l := negD) (i := 44) rfl), hd _ (List.mem_of_getElem? (l := negD) (i := 43) rfl), hd _ (List.mem_of_getElem? (l := negD) (i := 42) rfl), hd _ (List.mem_of_getElem? (l := negD) (i := 40) rfl), hd _ (List.mem_of_getElem? (l := negD) (i := 38) rfl), hd _ (List.mem_of_getElem? (l := negD) (i := 37) rfl), hd _ (List.mem_of_getElem? (l := negD) (i := 33) rfl), hd _ (List.mem_of_getElem? (l := negD) (i := 32) rfl), hd _ (List.mem_of_getElem? (l := negD) (i := 29) rfl), hd _ (List.mem_of_getElem? (l := negD) (i := 28) rfl), hd _ (List.mem_of_getElem? (l := negD) (i := 27) rfl), hd _ (List.mem_of_getElem? (l := negD) (i := 26) rfl), hd _ (List.mem_of_getElem? (l := negD) (i := 25) rfl), hd _ (List.mem_of_getElem? (l := negD) (i := 23) rfl), hd _ (List.mem_of_getElem? (l := negD) (i := 22) rfl), hd _ (List.mem_of_getElem? (l := negD) (i := 21) rfl), hd _ (List.mem_of_getElem? (l := negD) (i := 20) rfl), hd _ (List.mem_of_getElem? (l := negD) (i := 18) rfl), hd _ (List.mem_of_getElem? (l := negD) (i := 15) rfl), hd _ (List.mem_of_getElem? (l := negD) (i := 14) rfl), hd _ (List.mem_of_getElem? (l := negD) (i := 10) rfl), hd _ (List.mem_of_getElem? (l := negD) (i := 9) rfl), hd _ (List.mem_of_getElem? (l := negD) (i := 6) rfl), hd _ (List.mem_of_getElem? (l := negD) (i := 5) rfl), hd _ (List.mem_of_getElem? (l := negD) (i := 4) rfl), hd _ (List.mem_of_getElem? (l := negD) (i := 3) rfl), hd _ (List.mem_of_getElem? (l := negD) (i := 2) rfl), hd _ (List.mem_of_getElem? (l := negD) (i := 0) rfl)⟩
def hiD : List (Nat × Pr × List A) := [(83, Pr.cmp BinOp.eql, [A.x 33, A.x 80]), (82, Pr.sel, [A.x 72, A.k (Int.ofNat 1), A.x 81]), (81, Pr.u 1, [A.x 77]), (80, Pr.u 0, [A.x 77]), (79, Pr.not, [A.x 78]), (78, Pr.u 27, [A.x 73]), (77, Pr.u 26, [A.x 73]), (76, Pr.u 22, [A.x 73]), (75, Pr.u 21, [A.x 73]), (74, Pr.u 25, [A.x 68, A.x 23]), (73, Pr.u 24, [A.x 68, A.x 23]), (72, Pr.sel, [A.x 64, A.k (Int.ofNat 1), A.x 21]), (71, Pr.u 22, [A.x 68]), (70, Pr.u 21, [A.x 68]), (69, Pr.u 25, [A.k (Int.ofNat 0), A.x 65]), (68, Pr.u 24, [A.k (Int.ofNat 0), A.x 65]), (67, Pr.u 22, [A.x 65]), (66, Pr.u 21, [A.x 65]), (65, Pr.u 20, [A.x 62, A.x 62]), (64, Pr.sel, [A.x 59, A.k (Int.ofNat 1), A.x 63]), (63, Pr.u 1, [A.x 61]), (62, Pr.u 0, [A.x 61]), (61, Pr.iop BinOp.sub IntKind.i64, [A.k (Int.ofNat 0), A.x 5]), (60, Pr.cmp BinOp.eql, [A.x 33, A.x 57]), (59, Pr.sel, [A.x 49, A.k (Int.ofNat 1), A.x 58]), (58, Pr.u 1, [A.x 54]), (57, Pr.u 0, [A.x 54]), (56, Pr.not, [A.x 55]), (55, Pr.u 27, [A.x 50]), (54, Pr.u 26, [A.x 50]), (53, Pr.u 22, [A.x 50]), (52, Pr.u 21, [A.x 50]), (51, Pr.u 25, [A.x 45, A.x 13]), (50, Pr.u 24, [A.x 45, A.x 13]), (49, Pr.sel, [A.x 44, A.k (Int.ofNat 1), A.x 11]), (48, Pr.u 22, [A.x 45]), (47, Pr.u 21, [A.x 45]), (46, Pr.u 25, [A.k (Int.ofNat 0), A.x 23]), (45, Pr.u 24, [A.k (Int.ofNat 0), A.x 23]), (44, Pr.sel, [A.x 42, A.k (Int.ofNat 1), A.x 21]), (43, Pr.cmp BinOp.leq, [A.x 33, A.x 40]), (42, Pr.sel, [A.x 35, A.k (Int.ofNat 1), A.x 41]), (41, Pr.u 15, [A.x 36, A.x 38]), (40, Pr.u 14, [A.x 36, A.x 38]), (39, Pr.cmp BinOp.geq, [A.x 33, A.x 38]), (38, Pr.u 12, [A.x 7]), (37, Pr.cmp BinOp.geq, [A.x 33, A.x 36]), (36, Pr.u 12, [A.x 5]), (35, Pr.sel, [A.x 22, A.k (Int.ofNat 1), A.x 34]), (34, Pr.u 1, [A.x 30]), (33, Pr.u 0, [A.x 30]), (32, Pr.not, [A.x 31]), (31, Pr.u 27, [A.x 26]), (30, Pr.u 26, [A.x 26]), (29, Pr.u 22, [A.x 26]), (28, Pr.u 21, [A.x 26]), (27, Pr.u 25, [A.x 16, A.x 23]), (26, Pr.u 24, [A.x 16, A.x 23]), (25, Pr.u 22, [A.x 23]), (24, Pr.u 21, [A.x 23]), (23, Pr.u 20, [A.x 20, A.x 20]), (22, Pr.sel, [A.x 12, A.k (Int.ofNat 1), A.x 21]), (21, Pr.u 1, [A.x 7]), (20, Pr.u 0, [A.x 7]), (19, Pr.u 22, [A.x 16]), (18, Pr.u 21, [A.x 16]), (17, Pr.u 25, [A.k (Int.ofNat 0), A.x 13]), (16, Pr.u 24, [A.k (Int.ofNat 0), A.x 13]), (15, Pr.u 22, [A.x 13]), (14, Pr.u 21, [A.x 13]), (13, Pr.u 20, [A.x 10, A.x 10]), (12, Pr.sel, [A.x 9, A.k (Int.ofNat 1), A.x 11]), (11, Pr.u 1, [A.x 5]), (10, Pr.u 0, [A.x 5]), (9, Pr.sel, [A.x 6, A.k (Int.ofNat 1), A.x 8]), (8, Pr.u 1, [A.x 2]), (7, Pr.u 0, [A.x 2]), (6, Pr.u 1, [A.x 1]), (5, Pr.u 0, [A.x 1]), (4, Pr.cmp BinOp.leq, [A.x 0, A.k (Int.ofNat 35184372088832)]), (3, Pr.cmp BinOp.geq, [A.x 0, A.k (Int.ofNat 0)])]
def hiS : St := { heap := [], next := 194, resv := [], nv := 84, defs := hiD, orc := [], cs := [(79, Bool.false), (60, Bool.true), (56, Bool.false), (43, Bool.true), (39, Bool.true), (37, Bool.true), (32, Bool.false), (4, Bool.false), (3, Bool.true)] }
set_option maxRecDepth 100000 in
theorem hi_ran : runCall Try.prog U X sums 100000 40 8 [.w (.c (.i .i64 (.x 0))), .w (.c (.i .i64 (.x 1))), .w (.c (.i .i64 (.x 2)))] { st0 with nv := 3, orc := [true, false, false, true, true, true, false, true, false] } = some (V.w (W.c (C.b (A.x 83))), hiS) := by kernel_rfl
theorem hi_wf : wfD 3 hiS.nv hiS.defs = true := by kernel_rfl
theorem hi_eqs {g : Sg} (hd : DefsOk U g hiD) :
    (g 3 : Int) = b2i (cmpF .geq (g 0) 0) ∧
    (g 4 : Int) = b2i (cmpF .leq (g 0) 35184372088832) ∧
    (g 5 : Int) = satv (g 1) ∧
    (g 6 : Int) = b2i (sath (g 1)) ∧
    (g 7 : Int) = satv (g 2) ∧
    (g 8 : Int) = b2i (sath (g 2)) ∧
    (g 10 : Int) = satv (g 5) ∧
    (g 11 : Int) = b2i (sath (g 5)) ∧
    (g 13 : Int) = (g 10) * (g 10) ∧
    (g 16 : Int) = U 24 [0, g 13] ∧
    (g 17 : Int) = U 25 [0, g 13] ∧
    (g 20 : Int) = satv (g 7) ∧
    (g 21 : Int) = b2i (sath (g 7)) ∧
    (g 23 : Int) = (g 20) * (g 20) ∧
    (g 26 : Int) = U 24 [g 16, g 23] ∧
    (g 27 : Int) = U 25 [g 16, g 23] ∧
    (g 30 : Int) = U 26 [g 26] ∧
    (g 31 : Int) = U 27 [g 26] ∧
    (g 32 : Int) = b2i (!ieq (g 31) 1) ∧
    (g 33 : Int) = satv (g 30) ∧
    (g 34 : Int) = b2i (sath (g 30)) ∧
    (g 36 : Int) = absv (g 5) ∧
    (g 37 : Int) = b2i (cmpF .geq (g 33) (g 36)) ∧
    (g 38 : Int) = absv (g 7) ∧
    (g 39 : Int) = b2i (cmpF .geq (g 33) (g 38)) ∧
    (g 40 : Int) = U 14 [g 36, g 38] ∧
    (g 41 : Int) = U 15 [g 36, g 38] ∧
    (g 43 : Int) = b2i (cmpF .leq (g 33) (g 40)) ∧
    (g 45 : Int) = U 24 [0, g 23] ∧
    (g 46 : Int) = U 25 [0, g 23] ∧
    (g 50 : Int) = U 24 [g 45, g 13] ∧
    (g 51 : Int) = U 25 [g 45, g 13] ∧
    (g 54 : Int) = U 26 [g 50] ∧
    (g 55 : Int) = U 27 [g 50] ∧
    (g 56 : Int) = b2i (!ieq (g 55) 1) ∧
    (g 57 : Int) = satv (g 54) ∧
    (g 58 : Int) = b2i (sath (g 54)) ∧
    (g 60 : Int) = b2i (cmpF .eql (g 33) (g 57)) ∧
    (g 61 : Int) = wrapF .i64 (0 - (g 5)) ∧
    (g 62 : Int) = satv (g 61) ∧
    (g 63 : Int) = b2i (sath (g 61)) ∧
    (g 65 : Int) = (g 62) * (g 62) ∧
    (g 68 : Int) = U 24 [0, g 65] ∧
    (g 69 : Int) = U 25 [0, g 65] ∧
    (g 73 : Int) = U 24 [g 68, g 23] ∧
    (g 74 : Int) = U 25 [g 68, g 23] ∧
    (g 77 : Int) = U 26 [g 73] ∧
    (g 78 : Int) = U 27 [g 73] ∧
    (g 79 : Int) = b2i (!ieq (g 78) 1) ∧
    (g 80 : Int) = satv (g 77) ∧
    (g 81 : Int) = b2i (sath (g 77)) ∧
    (g 83 : Int) = b2i (cmpF .eql (g 33) (g 80)) :=
  ⟨hd _ (List.mem_of_getElem? (l := hiD) (i := 80) rfl), hd _ (List.mem_of_getElem? (l := hiD) (i := 79) rfl), hd _ (List.mem_of_getElem? (l := hiD) (i := 78) rfl), hd _ (List.mem_of_getElem? (l := hiD) (i := 77) rfl), hd _ (List.mem_of_getElem? (l := hiD) (i := 76) rfl), hd _ (List.mem_of_getElem? (l := hiD) (i := 75) rfl), hd _ (List.mem_of_getElem? (l := hiD) (i := 73) rfl), hd _ (List.mem_of_getElem? (l := hiD) (i := 72) rfl), hd _ (List.mem_of_getElem? (l := hiD) (i := 70) rfl), hd _ (List.mem_of_getElem? (l := hiD) (i := 67) rfl), hd _ (List.mem_of_getElem? (l := hiD) (i := 66) rfl), hd _ (List.mem_of_getElem? (l := hiD) (i := 63) rfl), hd _ (List.mem_of_getElem? (l := hiD) (i := 62) rfl), hd _ (List.mem_of_getElem? (l := hiD) (i := 60) rfl), hd _ (List.mem_of_getElem? (l := hiD) (i := 57) rfl), hd _ (List.mem_of_getElem? (l := hiD) (i := 56) rfl), hd _ (List.mem_of_getElem? (l := hiD) (i := 53) rfl), hd _ (List.mem_of_getElem? (l := hiD) (i := 52) rfl), hd _ (List.mem_of_getElem? (l := hiD) (i := 51) rfl), hd _ (List.mem_of_getElem? (l := hiD) (i := 50) rfl), hd _ (List.mem_of_getElem? (l := hiD) (i := 49) rfl), hd _ (List.mem_of_getElem? (l := hiD) (i := 47) rfl), hd _ (List.mem_of_getElem? (l := hiD) (i := 46) rfl), hd _ (List.mem_of_getElem? (l := hiD) (i := 45) rfl), hd _ (List.mem_of_getElem? (l := hiD) (i := 44) rfl), hd _ (List.mem_of_getElem? (l := hiD) (i := 43) rfl), hd _ (List.mem_of_getElem? (l := hiD) (i := 42) rfl), hd _ (List.mem_of_getElem? (l := hiD) (i := 40) rfl), hd _ (List.mem_of_getElem? (l := hiD) (i := 38) rfl), hd _ (List.mem_of_getElem? (l := hiD) (i := 37) rfl), hd _ (List.mem_of_getElem? (l := hiD) (i := 33) rfl), hd _ (List.mem_of_getElem? (l := hiD) (i := 32) rfl), hd _ (List.mem_of_getElem? (l := hiD) (i := 29) rfl), hd _ (List.mem_of_getElem? (l := hiD) (i := 28) rfl), hd _ (List.mem_of_getElem? (l := hiD) (i := 27) rfl), hd _ (List.mem_of_getElem? (l := hiD) (i := 26) rfl), hd _ (List.mem_of_getElem? (l := hiD) (i := 25) rfl), hd _ (List.mem_of_getElem? (l := hiD) (i := 23) rfl), hd _ (List.mem_of_getElem? (l := hiD) (i := 22) rfl), hd _ (List.mem_of_getElem? (l := hiD) (i := 21) rfl), hd _ (List.mem_of_getElem? (l := hiD) (i := 20) rfl), hd _ (List.mem_of_getElem? (l := hiD) (i := 18) rfl), hd _ (List.mem_of_getElem? (l := hiD) (i := 15) rfl), hd _ (List.mem_of_getElem? (l := hiD) (i := 14) rfl), hd _ (List.mem_of_getElem? (l := hiD) (i := 10) rfl), hd _ (List.mem_of_getElem? (l := hiD) (i := 9) rfl), hd _ (List.mem_of_getElem? (l := hiD) (i := 6) rfl), hd _ (List.mem_of_getElem? (l := hiD) (i := 5) rfl), hd _ (List.mem_of_getElem? (l := hiD) (i := 4) rfl), hd _ (List.mem_of_getElem? (l := hiD) (i := 3) rfl), hd _ (List.mem_of_getElem? (l := hiD) (i := 2) rfl), hd _ (List.mem_of_getElem? (l := hiD) (i := 0) rfl)⟩
def midD : List (Nat × Pr × List A) := [(97, Pr.cmp BinOp.eql, [A.x 47, A.x 94]), (96, Pr.sel, [A.x 86, A.k (Int.ofNat 1), A.x 95]), (95, Pr.u 1, [A.x 91]), (94, Pr.u 0, [A.x 91]), (93, Pr.not, [A.x 92]), (92, Pr.u 27, [A.x 87]), (91, Pr.u 26, [A.x 87]), (90, Pr.u 22, [A.x 87]), (89, Pr.u 21, [A.x 87]), (88, Pr.u 25, [A.x 82, A.x 37]), (87, Pr.u 24, [A.x 82, A.x 37]), (86, Pr.sel, [A.x 78, A.k (Int.ofNat 1), A.x 35]), (85, Pr.u 22, [A.x 82]), (84, Pr.u 21, [A.x 82]), (83, Pr.u 25, [A.k (Int.ofNat 0), A.x 79]), (82, Pr.u 24, [A.k (Int.ofNat 0), A.x 79]), (81, Pr.u 22, [A.x 79]), (80, Pr.u 21, [A.x 79]), (79, Pr.u 20, [A.x 76, A.x 76]), (78, Pr.sel, [A.x 73, A.k (Int.ofNat 1), A.x 77]), (77, Pr.u 1, [A.x 75]), (76, Pr.u 0, [A.x 75]), (75, Pr.iop BinOp.sub IntKind.i64, [A.k (Int.ofNat 0), A.x 18]), (74, Pr.cmp BinOp.eql, [A.x 47, A.x 71]), (73, Pr.sel, [A.x 63, A.k (Int.ofNat 1), A.x 72]), (72, Pr.u 1, [A.x 68]), (71, Pr.u 0, [A.x 68]), (70, Pr.not, [A.x 69]), (69, Pr.u 27, [A.x 64]), (68, Pr.u 26, [A.x 64]), (67, Pr.u 22, [A.x 64]), (66, Pr.u 21, [A.x 64]), (65, Pr.u 25, [A.x 59, A.x 27]), (64, Pr.u 24, [A.x 59, A.x 27]), (63, Pr.sel, [A.x 58, A.k (Int.ofNat 1), A.x 25]), (62, Pr.u 22, [A.x 59]), (61, Pr.u 21, [A.x 59]), (60, Pr.u 25, [A.k (Int.ofNat 0), A.x 37]), (59, Pr.u 24, [A.k (Int.ofNat 0), A.x 37]), (58, Pr.sel, [A.x 56, A.k (Int.ofNat 1), A.x 35]), (57, Pr.cmp BinOp.leq, [A.x 47, A.x 54]), (56, Pr.sel, [A.x 49, A.k (Int.ofNat 1), A.x 55]), (55, Pr.u 15, [A.x 50, A.x 52]), (54, Pr.u 14, [A.x 50, A.x 52]), (53, Pr.cmp BinOp.geq, [A.x 47, A.x 52]), (52, Pr.u 12, [A.x 21]), (51, Pr.cmp BinOp.geq, [A.x 47, A.x 50]), (50, Pr.u 12, [A.x 18]), (49, Pr.sel, [A.x 36, A.k (Int.ofNat 1), A.x 48]), (48, Pr.u 1, [A.x 44]), (47, Pr.u 0, [A.x 44]), (46, Pr.not, [A.x 45]), (45, Pr.u 27, [A.x 40]), (44, Pr.u 26, [A.x 40]), (43, Pr.u 22, [A.x 40]), (42, Pr.u 21, [A.x 40]), (41, Pr.u 25, [A.x 30, A.x 37]), (40, Pr.u 24, [A.x 30, A.x 37]), (39, Pr.u 22, [A.x 37]), (38, Pr.u 21, [A.x 37]), (37, Pr.u 20, [A.x 34, A.x 34]), (36, Pr.sel, [A.x 26, A.k (Int.ofNat 1), A.x 35]), (35, Pr.u 1, [A.x 21]), (34, Pr.u 0, [A.x 21]), (33, Pr.u 22, [A.x 30]), (32, Pr.u 21, [A.x 30]), (31, Pr.u 25, [A.k (Int.ofNat 0), A.x 27]), (30, Pr.u 24, [A.k (Int.ofNat 0), A.x 27]), (29, Pr.u 22, [A.x 27]), (28, Pr.u 21, [A.x 27]), (27, Pr.u 20, [A.x 24, A.x 24]), (26, Pr.sel, [A.x 23, A.k (Int.ofNat 1), A.x 25]), (25, Pr.u 1, [A.x 18]), (24, Pr.u 0, [A.x 18]), (23, Pr.sel, [A.x 20, A.k (Int.ofNat 1), A.x 22]), (22, Pr.u 1, [A.x 2]), (21, Pr.u 0, [A.x 2]), (20, Pr.sel, [A.x 9, A.k (Int.ofNat 1), A.x 19]), (19, Pr.u 1, [A.x 1]), (18, Pr.u 0, [A.x 1]), (17, Pr.cmp BinOp.gtr, [A.x 15, A.k (Int.ofNat 32768)]), (16, Pr.cmp BinOp.lss, [A.x 15, A.k (Int.negSucc 32767)]), (15, Pr.iop BinOp.sub IntKind.i64, [A.x 13, A.x 0]), (14, Pr.u 27, [A.x 10]), (13, Pr.u 26, [A.x 10]), (12, Pr.u 22, [A.x 10]), (11, Pr.u 21, [A.x 10]), (10, Pr.u 20, [A.x 7, A.k (Int.ofNat 1073741824)]), (9, Pr.sel, [A.x 6, A.k (Int.ofNat 1), A.x 8]), (8, Pr.u 11, [A.x 5, A.k (Int.ofNat 0), A.k (Int.ofNat 1152921504606846976)]), (7, Pr.u 10, [A.x 5, A.k (Int.ofNat 0), A.k (Int.ofNat 1152921504606846976)]), (6, Pr.u 3, [A.x 0, A.x 0, A.k (Int.ofNat 30)]), (5, Pr.u 2, [A.x 0, A.x 0, A.k (Int.ofNat 30)]), (4, Pr.cmp BinOp.leq, [A.x 0, A.k (Int.ofNat 35184372088832)]), (3, Pr.cmp BinOp.geq, [A.x 0, A.k (Int.ofNat 0)])]
def midS : St := { heap := [], next := 194, resv := [], nv := 98, defs := midD, orc := [], cs := [(93, Bool.false), (74, Bool.true), (70, Bool.false), (57, Bool.true), (53, Bool.true), (51, Bool.true), (46, Bool.false), (17, Bool.false), (16, Bool.false), (4, Bool.true), (3, Bool.true)] }
set_option maxRecDepth 100000 in
theorem mid_ran : runCall Try.prog U X sums 100000 40 8 [.w (.c (.i .i64 (.x 0))), .w (.c (.i .i64 (.x 1))), .w (.c (.i .i64 (.x 2)))] { st0 with nv := 3, orc := [true, true, false, false, false, true, true, true, false, true, false] } = some (V.w (W.c (C.b (A.x 97))), midS) := by kernel_rfl
theorem mid_wf : wfD 3 midS.nv midS.defs = true := by kernel_rfl
theorem mid_eqs {g : Sg} (hd : DefsOk U g midD) :
    (g 3 : Int) = b2i (cmpF .geq (g 0) 0) ∧
    (g 4 : Int) = b2i (cmpF .leq (g 0) 35184372088832) ∧
    (g 5 : Int) = satv (rnd (satv (g 0) * satv (g 0)) 30) ∧
    (g 6 : Int) = U 3 [g 0, g 0, 30] ∧
    (g 7 : Int) = clampv (g 5) 0 1152921504606846976 ∧
    (g 8 : Int) = b2i (clamph (g 5) 0 1152921504606846976) ∧
    (g 10 : Int) = (g 7) * 1073741824 ∧
    (g 13 : Int) = U 26 [g 10] ∧
    (g 14 : Int) = U 27 [g 10] ∧
    (g 15 : Int) = wrapF .i64 ((g 13) - (g 0)) ∧
    (g 16 : Int) = b2i (cmpF .lss (g 15) (-32768)) ∧
    (g 17 : Int) = b2i (cmpF .gtr (g 15) 32768) ∧
    (g 18 : Int) = satv (g 1) ∧
    (g 19 : Int) = b2i (sath (g 1)) ∧
    (g 21 : Int) = satv (g 2) ∧
    (g 22 : Int) = b2i (sath (g 2)) ∧
    (g 24 : Int) = satv (g 18) ∧
    (g 25 : Int) = b2i (sath (g 18)) ∧
    (g 27 : Int) = (g 24) * (g 24) ∧
    (g 30 : Int) = U 24 [0, g 27] ∧
    (g 31 : Int) = U 25 [0, g 27] ∧
    (g 34 : Int) = satv (g 21) ∧
    (g 35 : Int) = b2i (sath (g 21)) ∧
    (g 37 : Int) = (g 34) * (g 34) ∧
    (g 40 : Int) = U 24 [g 30, g 37] ∧
    (g 41 : Int) = U 25 [g 30, g 37] ∧
    (g 44 : Int) = U 26 [g 40] ∧
    (g 45 : Int) = U 27 [g 40] ∧
    (g 46 : Int) = b2i (!ieq (g 45) 1) ∧
    (g 47 : Int) = satv (g 44) ∧
    (g 48 : Int) = b2i (sath (g 44)) ∧
    (g 50 : Int) = absv (g 18) ∧
    (g 51 : Int) = b2i (cmpF .geq (g 47) (g 50)) ∧
    (g 52 : Int) = absv (g 21) ∧
    (g 53 : Int) = b2i (cmpF .geq (g 47) (g 52)) ∧
    (g 54 : Int) = U 14 [g 50, g 52] ∧
    (g 55 : Int) = U 15 [g 50, g 52] ∧
    (g 57 : Int) = b2i (cmpF .leq (g 47) (g 54)) ∧
    (g 59 : Int) = U 24 [0, g 37] ∧
    (g 60 : Int) = U 25 [0, g 37] ∧
    (g 64 : Int) = U 24 [g 59, g 27] ∧
    (g 65 : Int) = U 25 [g 59, g 27] ∧
    (g 68 : Int) = U 26 [g 64] ∧
    (g 69 : Int) = U 27 [g 64] ∧
    (g 70 : Int) = b2i (!ieq (g 69) 1) ∧
    (g 71 : Int) = satv (g 68) ∧
    (g 72 : Int) = b2i (sath (g 68)) ∧
    (g 74 : Int) = b2i (cmpF .eql (g 47) (g 71)) ∧
    (g 75 : Int) = wrapF .i64 (0 - (g 18)) ∧
    (g 76 : Int) = satv (g 75) ∧
    (g 77 : Int) = b2i (sath (g 75)) ∧
    (g 79 : Int) = (g 76) * (g 76) ∧
    (g 82 : Int) = U 24 [0, g 79] ∧
    (g 83 : Int) = U 25 [0, g 79] ∧
    (g 87 : Int) = U 24 [g 82, g 37] ∧
    (g 88 : Int) = U 25 [g 82, g 37] ∧
    (g 91 : Int) = U 26 [g 87] ∧
    (g 92 : Int) = U 27 [g 87] ∧
    (g 93 : Int) = b2i (!ieq (g 92) 1) ∧
    (g 94 : Int) = satv (g 91) ∧
    (g 95 : Int) = b2i (sath (g 91)) ∧
    (g 97 : Int) = b2i (cmpF .eql (g 47) (g 94)) :=
  ⟨hd _ (List.mem_of_getElem? (l := midD) (i := 94) rfl), hd _ (List.mem_of_getElem? (l := midD) (i := 93) rfl), hd _ (List.mem_of_getElem? (l := midD) (i := 92) rfl), hd _ (List.mem_of_getElem? (l := midD) (i := 91) rfl), hd _ (List.mem_of_getElem? (l := midD) (i := 90) rfl), hd _ (List.mem_of_getElem? (l := midD) (i := 89) rfl), hd _ (List.mem_of_getElem? (l := midD) (i := 87) rfl), hd _ (List.mem_of_getElem? (l := midD) (i := 84) rfl), hd _ (List.mem_of_getElem? (l := midD) (i := 83) rfl), hd _ (List.mem_of_getElem? (l := midD) (i := 82) rfl), hd _ (List.mem_of_getElem? (l := midD) (i := 81) rfl), hd _ (List.mem_of_getElem? (l := midD) (i := 80) rfl), hd _ (List.mem_of_getElem? (l := midD) (i := 79) rfl), hd _ (List.mem_of_getElem? (l := midD) (i := 78) rfl), hd _ (List.mem_of_getElem? (l := midD) (i := 76) rfl), hd _ (List.mem_of_getElem? (l := midD) (i := 75) rfl), hd _ (List.mem_of_getElem? (l := midD) (i := 73) rfl), hd _ (List.mem_of_getElem? (l := midD) (i := 72) rfl), hd _ (List.mem_of_getElem? (l := midD) (i := 70) rfl), hd _ (List.mem_of_getElem? (l := midD) (i := 67) rfl), hd _ (List.mem_of_getElem? (l := midD) (i := 66) rfl), hd _ (List.mem_of_getElem? (l := midD) (i := 63) rfl), hd _ (List.mem_of_getElem? (l := midD) (i := 62) rfl), hd _ (List.mem_of_getElem? (l := midD) (i := 60) rfl), hd _ (List.mem_of_getElem? (l := midD) (i := 57) rfl), hd _ (List.mem_of_getElem? (l := midD) (i := 56) rfl), hd _ (List.mem_of_getElem? (l := midD) (i := 53) rfl), hd _ (List.mem_of_getElem? (l := midD) (i := 52) rfl), hd _ (List.mem_of_getElem? (l := midD) (i := 51) rfl), hd _ (List.mem_of_getElem? (l := midD) (i := 50) rfl), hd _ (List.mem_of_getElem? (l := midD) (i := 49) rfl), hd _ (List.mem_of_getElem? (l := midD) (i := 47) rfl), hd _ (List.mem_of_getElem? (l := midD) (i := 46) rfl), hd _ (List.mem_of_getElem? (l := midD) (i := 45) rfl), hd _ (List.mem_of_getElem? (l := midD) (i := 44) rfl), hd _ (List.mem_of_getElem? (l := midD) (i := 43) rfl), hd _ (List.mem_of_getElem? (l := midD) (i := 42) rfl), hd _ (List.mem_of_getElem? (l := midD) (i := 40) rfl), hd _ (List.mem_of_getElem? (l := midD) (i := 38) rfl), hd _ (List.mem_of_getElem? (l := midD) (i := 37) rfl), hd _ (List.mem_of_getElem? (l := midD) (i := 33) rfl), hd _ (List.mem_of_getElem? (l := midD) (i := 32) rfl), hd _ (List.mem_of_getElem? (l := midD) (i := 29) rfl), hd _ (List.mem_of_getElem? (l := midD) (i := 28) rfl), hd _ (List.mem_of_getElem? (l := midD) (i := 27) rfl), hd _ (List.mem_of_getElem? (l := midD) (i := 26) rfl), hd _ (List.mem_of_getElem? (l := midD) (i := 25) rfl), hd _ (List.mem_of_getElem? (l := midD) (i := 23) rfl), hd _ (List.mem_of_getElem? (l := midD) (i := 22) rfl), hd _ (List.mem_of_getElem? (l := midD) (i := 21) rfl), hd _ (List.mem_of_getElem? (l := midD) (i := 20) rfl), hd _ (List.mem_of_getElem? (l := midD) (i := 18) rfl), hd _ (List.mem_of_getElem? (l := midD) (i := 15) rfl), hd _ (List.mem_of_getElem? (l := midD) (i := 14) rfl), hd _ (List.mem_of_getElem? (l := midD) (i := 10) rfl), hd _ (List.mem_of_getElem? (l := midD) (i := 9) rfl), hd _ (List.mem_of_getElem? (l := midD) (i := 6) rfl), hd _ (List.mem_of_getElem? (l := midD) (i := 5) rfl), hd _ (List.mem_of_getElem? (l := midD) (i := 4) rfl), hd _ (List.mem_of_getElem? (l := midD) (i := 3) rfl), hd _ (List.mem_of_getElem? (l := midD) (i := 2) rfl), hd _ (List.mem_of_getElem? (l := midD) (i := 0) rfl)⟩
end Go.Proofs.Ytahedampmjfoeaa.rootHolds
