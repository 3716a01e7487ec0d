/- What the runner comes to over astrolabelaw3.RootRises. -/
import Derived.Test.YtahedampmjfoeaaSxP
namespace Go.Proofs.Ytahedampmjfoeaa.rootRises
open Go SX
def n1D : List (Nat × Pr × List A) := [(3, Pr.cmp BinOp.lss, [A.x 0, A.k (Int.ofNat 1048576)]), (2, Pr.cmp BinOp.geq, [A.x 0, A.k (Int.ofNat 0)])]
def n1S : St := { heap := [], next := 127, resv := [], nv := 4, defs := n1D, orc := [], cs := [(3, Bool.true), (2, Bool.false)] }
set_option maxRecDepth 100000 in
theorem n1_ran : runCall Try.prog U X sums 100000 40 9 [.w (.c (.i .i64 (.x 0))), .w (.c (.i .i64 (.x 1)))] { st0 with nv := 2, orc := [false, true] } = some (V.w (W.c (C.b (A.k (Int.ofNat 1)))), n1S) := by kernel_rfl
theorem n1_wf : wfD 2 n1S.nv n1S.defs = true := by kernel_rfl
theorem n1_eqs {g : Sg} (hd : DefsOk U g n1D) :
    (g 2 : Int) = b2i (cmpF .geq (g 0) 0) ∧
    (g 3 : Int) = b2i (cmpF .lss (g 0) 1048576) :=
  ⟨hd _ (List.mem_of_getElem? (l := n1D) (i := 1) rfl), hd _ (List.mem_of_getElem? (l := n1D) (i := 0) rfl)⟩
def n2D : List (Nat × Pr × List A) := [(4, Pr.cmp BinOp.lss, [A.x 0, A.k (Int.ofNat 1048576)]), (3, Pr.cmp BinOp.geq, [A.x 1, A.x 0]), (2, Pr.cmp BinOp.geq, [A.x 0, A.k (Int.ofNat 0)])]
def n2S : St := { heap := [], next := 127, resv := [], nv := 5, defs := n2D, orc := [], cs := [(4, Bool.true), (3, Bool.false), (2, Bool.true)] }
set_option maxRecDepth 100000 in
theorem n2_ran : runCall Try.prog U X sums 100000 40 9 [.w (.c (.i .i64 (.x 0))), .w (.c (.i .i64 (.x 1)))] { st0 with nv := 2, orc := [true, false, true] } = some (V.w (W.c (C.b (A.k (Int.ofNat 1)))), n2S) := by kernel_rfl
theorem n2_wf : wfD 2 n2S.nv n2S.defs = true := by kernel_rfl
theorem n2_eqs {g : Sg} (hd : DefsOk U g n2D) :
    (g 2 : Int) = b2i (cmpF .geq (g 0) 0) ∧
    (g 3 : Int) = b2i (cmpF .geq (g 1) (g 0)) ∧
    (g 4 : Int) = b2i (cmpF .lss (g 0) 1048576) :=
  ⟨hd _ (List.mem_of_getElem? (l := n2D) (i := 2) rfl), hd _ (List.mem_of_getElem? (l := n2D) (i := 1) rfl), hd _ (List.mem_of_getElem? (l := n2D) (i := 0) rfl)⟩
def n3D : List (Nat × Pr × List A) := [(5, Pr.cmp BinOp.gtr, [A.x 0, A.k (Int.ofNat 1099511627776)]), (4, Pr.cmp BinOp.lss, [A.x 0, A.k (Int.ofNat 1048576)]), (3, Pr.cmp BinOp.geq, [A.x 1, A.x 0]), (2, Pr.cmp BinOp.geq, [A.x 0, A.k (Int.ofNat 0)])]
def n3S : St := { heap := [], next := 127, resv := [], nv := 6, defs := n3D, orc := [], cs := [(5, Bool.true), (4, Bool.false), (3, Bool.false), (2, Bool.true)] }
set_option maxRecDepth 100000 in
theorem n3_ran : runCall Try.prog U X sums 100000 40 9 [.w (.c (.i .i64 (.x 0))), .w (.c (.i .i64 (.x 1)))] { st0 with nv := 2, orc := [true, false, false, true] } = some (V.w (W.c (C.b (A.k (Int.ofNat 1)))), n3S) := by kernel_rfl
theorem n3_wf : wfD 2 n3S.nv n3S.defs = true := by kernel_rfl
theorem n3_eqs {g : Sg} (hd : DefsOk U g n3D) :
    (g 2 : Int) = b2i (cmpF .geq (g 0) 0) ∧
    (g 3 : Int) = b2i (cmpF .geq (g 1) (g 0)) ∧
    (g 4 : Int) = b2i (cmpF .lss (g 0) 1048576) ∧
    (g 5 : Int) = b2i (cmpF .gtr (g 0) 1099511627776) :=
  ⟨hd _ (List.mem_of_getElem? (l := n3D) (i := 3) rfl), hd _ (List.mem_of_getElem? (l := n3D) (i := 2) rfl), hd _ (List.mem_of_getElem? (l := n3D) (i := 1) rfl), hd _ (List.mem_of_getElem? (l := n3D) (i := 0) rfl)⟩
def n4D : List (Nat × Pr × List A) := [(14, Pr.not, [A.x 10]), (13, Pr.cmp BinOp.geq, [A.x 11, A.k (Int.negSucc 1048575)]), (12, Pr.cmp BinOp.leq, [A.x 11, A.k (Int.ofNat 1048576)]), (11, Pr.iop BinOp.sub IntKind.i64, [A.x 8, A.x 0]), (10, Pr.sel, [A.x 7, A.k (Int.ofNat 1), A.x 9]), (9, Pr.u 5, [A.k (Int.ofNat 1073741824), A.x 6, A.k (Int.ofNat 30)]), (8, Pr.u 4, [A.k (Int.ofNat 1073741824), A.x 6, A.k (Int.ofNat 30)]), (7, Pr.u 5, [A.k (Int.ofNat 1073741824), A.x 0, A.k (Int.ofNat 30)]), (6, Pr.u 4, [A.k (Int.ofNat 1073741824), A.x 0, A.k (Int.ofNat 30)]), (5, Pr.cmp BinOp.gtr, [A.x 0, A.k (Int.ofNat 1099511627776)]), (4, Pr.cmp BinOp.lss, [A.x 0, A.k (Int.ofNat 1048576)]), (3, Pr.cmp BinOp.geq, [A.x 1, A.x 0]), (2, Pr.cmp BinOp.geq, [A.x 0, A.k (Int.ofNat 0)])]
def n4S : St := { heap := [], next := 128, resv := [], nv := 15, defs := n4D, orc := [], cs := [(13, Bool.true), (12, Bool.true), (5, Bool.false), (4, Bool.false), (3, Bool.false), (2, Bool.true)] }
set_option maxRecDepth 100000 in
theorem n4_ran : runCall Try.prog U X sums 100000 40 9 [.w (.c (.i .i64 (.x 0))), .w (.c (.i .i64 (.x 1)))] { st0 with nv := 2, orc := [true, false, false, false, true, true] } = some (V.w (W.c (C.b (A.x 14))), n4S) := by kernel_rfl
theorem n4_wf : wfD 2 n4S.nv n4S.defs = true := by kernel_rfl
theorem n4_eqs {g : Sg} (hd : DefsOk U g n4D) :
    (g 2 : Int) = b2i (cmpF .geq (g 0) 0) ∧
    (g 3 : Int) = b2i (cmpF .geq (g 1) (g 0)) ∧
    (g 4 : Int) = b2i (cmpF .lss (g 0) 1048576) ∧
    (g 5 : Int) = b2i (cmpF .gtr (g 0) 1099511627776) ∧
    (g 6 : Int) = divv (satv 1073741824 * 2 ^ 30) (satv (g 0)) ∧
    (g 7 : Int) = U 5 [1073741824, g 0, 30] ∧
    (g 8 : Int) = divv (satv 1073741824 * 2 ^ 30) (satv (g 6)) ∧
    (g 9 : Int) = U 5 [1073741824, g 6, 30] ∧
    (g 10 : Int) = (bif ieq (g 7) 1 then 1 else (g 9)) ∧
    (g 11 : Int) = wrapF .i64 ((g 8) - (g 0)) ∧
    (g 12 : Int) = b2i (cmpF .leq (g 11) 1048576) ∧
    (g 13 : Int) = b2i (cmpF .geq (g 11) (-1048576)) ∧
    (g 14 : Int) = b2i (!ieq (g 10) 1) :=
  ⟨hd _ (List.mem_of_getElem? (l := n4D) (i := 12) rfl), hd _ (List.mem_of_getElem? (l := n4D) (i := 11) rfl), hd _ (List.mem_of_getElem? (l := n4D) (i := 10) rfl), hd _ (List.mem_of_getElem? (l := n4D) (i := 9) rfl), hd _ (List.mem_of_getElem? (l := n4D) (i := 8) rfl), hd _ (List.mem_of_getElem? (l := n4D) (i := 7) rfl), hd _ (List.mem_of_getElem? (l := n4D) (i := 6) rfl), hd _ (List.mem_of_getElem? (l := n4D) (i := 5) rfl), hd _ (List.mem_of_getElem? (l := n4D) (i := 4) rfl), hd _ (List.mem_of_getElem? (l := n4D) (i := 3) rfl), hd _ (List.mem_of_getElem? (l := n4D) (i := 2) rfl), hd _ (List.mem_of_getElem? (l := n4D) (i := 1) rfl), hd _ (List.mem_of_getElem? (l := n4D) (i := 0) rfl)⟩
def m2D : List (Nat × Pr × List A) := [(20, Pr.cmp BinOp.lss, [A.x 0, A.k (Int.ofNat 1048576)]), (19, Pr.cmp BinOp.gtr, [A.x 9, A.x 17]), (18, Pr.u 27, [A.x 14]), (17, Pr.u 26, [A.x 14]), (16, Pr.u 22, [A.x 14]), (15, Pr.u 21, [A.x 14]), (14, Pr.u 20, [A.x 11, A.k (Int.ofNat 1073741824)]), (13, Pr.sel, [A.x 5, A.k (Int.ofNat 1), A.x 12]), (12, Pr.u 11, [A.x 1, A.k (Int.ofNat 0), A.k (Int.ofNat 1152921504606846976)]), (11, Pr.u 10, [A.x 1, A.k (Int.ofNat 0), A.k (Int.ofNat 1152921504606846976)]), (10, Pr.u 27, [A.x 6]), (9, Pr.u 26, [A.x 6]), (8, Pr.u 22, [A.x 6]), (7, Pr.u 21, [A.x 6]), (6, Pr.u 20, [A.x 4, A.k (Int.ofNat 1073741824)]), (5, Pr.u 11, [A.x 0, A.k (Int.ofNat 0), A.k (Int.ofNat 1152921504606846976)]), (4, Pr.u 10, [A.x 0, A.k (Int.ofNat 0), A.k (Int.ofNat 1152921504606846976)]), (3, Pr.cmp BinOp.geq, [A.x 1, A.x 0]), (2, Pr.cmp BinOp.geq, [A.x 0, A.k (Int.ofNat 0)])]
def m2S : St := { heap := [], next := 127, resv := [], nv := 21, defs := m2D, orc := [], cs := [(20, Bool.true), (19, Bool.false), (3, Bool.true), (2, Bool.true)] }
set_option maxRecDepth 100000 in
theorem m2_ran : runCall Try.prog U X sums 100000 40 9 [.w (.c (.i .i64 (.x 0))), .w (.c (.i .i64 (.x 1)))] { st0 with nv := 2, orc := [true, true, false, true] } = some (V.w (W.c (C.b (A.k (Int.ofNat 1)))), m2S) := by kernel_rfl
theorem m2_wf : wfD 2 m2S.nv m2S.defs = true := by kernel_rfl
theorem m2_eqs {g : Sg} (hd : DefsOk U g m2D) :
    (g 2 : Int) = b2i (cmpF .geq (g 0) 0) ∧
    (g 3 : Int) = b2i (cmpF .geq (g 1) (g 0)) ∧
    (g 4 : Int) = clampv (g 0) 0 1152921504606846976 ∧
    (g 5 : Int) = b2i (clamph (g 0) 0 1152921504606846976) ∧
    (g 6 : Int) = (g 4) * 1073741824 ∧
    (g 9 : Int) = U 26 [g 6] ∧
    (g 10 : Int) = U 27 [g 6] ∧
    (g 11 : Int) = clampv (g 1) 0 1152921504606846976 ∧
    (g 12 : Int) = b2i (clamph (g 1) 0 1152921504606846976) ∧
    (g 13 : Int) = (bif ieq (g 5) 1 then 1 else (g 12)) ∧
    (g 14 : Int) = (g 11) * 1073741824 ∧
    (g 17 : Int) = U 26 [g 14] ∧
    (g 18 : Int) = U 27 [g 14] ∧
    (g 19 : Int) = b2i (cmpF .gtr (g 9) (g 17)) ∧
    (g 20 : Int) = b2i (cmpF .lss (g 0) 1048576) :=
  ⟨hd _ (List.mem_of_getElem? (l := m2D) (i := 18) rfl), hd _ (List.mem_of_getElem? (l := m2D) (i := 17) rfl), hd _ (List.mem_of_getElem? (l := m2D) (i := 16) rfl), hd _ (List.mem_of_getElem? (l := m2D) (i := 15) rfl), hd _ (List.mem_of_getElem? (l := m2D) (i := 14) rfl), hd _ (List.mem_of_getElem? (l := m2D) (i := 11) rfl), hd _ (List.mem_of_getElem? (l := m2D) (i := 10) rfl), hd _ (List.mem_of_getElem? (l := m2D) (i := 9) rfl), hd _ (List.mem_of_getElem? (l := m2D) (i := 8) rfl), hd _ (List.mem_of_getElem? (l := m2D) (i := 7) rfl), hd _ (List.mem_of_getElem? (l := m2D) (i := 6) rfl), hd _ (List.mem_of_getElem? (l := m2D) (i := 3) rfl), hd _ (List.mem_of_getElem? (l := m2D) (i := 2) rfl), hd _ (List.mem_of_getElem? (l := m2D) (i := 1) rfl), hd _ (List.mem_of_getElem? (l := m2D) (i := 0) rfl)⟩
def m3D : List (Nat × Pr × List A) := [(21, Pr.cmp BinOp.gtr, [A.x 0, A.k (Int.ofNat 1099511627776)]), (20, Pr.cmp BinOp.lss, [A.x 0, A.k (Int.ofNat 1048576)]), (19, Pr.cmp BinOp.gtr, [A.x 9, A.x 17]), (18, Pr.u 27, [A.x 14]), (17, Pr.u 26, [A.x 14]), (16, Pr.u 22, [A.x 14]), (15, Pr.u 21, [A.x 14]), (14, Pr.u 20, [A.x 11, A.k (Int.ofNat 1073741824)]), (13, Pr.sel, [A.x 5, A.k (Int.ofNat 1), A.x 12]), (12, Pr.u 11, [A.x 1, A.k (Int.ofNat 0), A.k (Int.ofNat 1152921504606846976)]), (11, Pr.u 10, [A.x 1, A.k (Int.ofNat 0), A.k (Int.ofNat 1152921504606846976)]), (10, Pr.u 27, [A.x 6]), (9, Pr.u 26, [A.x 6]), (8, Pr.u 22, [A.x 6]), (7, Pr.u 21, [A.x 6]), (6, Pr.u 20, [A.x 4, A.k (Int.ofNat 1073741824)]), (5, Pr.u 11, [A.x 0, A.k (Int.ofNat 0), A.k (Int.ofNat 1152921504606846976)]), (4, Pr.u 10, [A.x 0, A.k (Int.ofNat 0), A.k (Int.ofNat 1152921504606846976)]), (3, Pr.cmp BinOp.geq, [A.x 1, A.x 0]), (2, Pr.cmp BinOp.geq, [A.x 0, A.k (Int.ofNat 0)])]
def m3S : St := { heap := [], next := 127, resv := [], nv := 22, defs := m3D, orc := [], cs := [(21, Bool.true), (20, Bool.false), (19, Bool.false), (3, Bool.true), (2, Bool.true)] }
set_option maxRecDepth 100000 in
theorem m3_ran : runCall Try.prog U X sums 100000 40 9 [.w (.c (.i .i64 (.x 0))), .w (.c (.i .i64 (.x 1)))] { st0 with nv := 2, orc := [true, true, false, false, true] } = some (V.w (W.c (C.b (A.k (Int.ofNat 1)))), m3S) := by kernel_rfl
theorem m3_wf : wfD 2 m3S.nv m3S.defs = true := by kernel_rfl
theorem m3_eqs {g : Sg} (hd : DefsOk U g m3D) :
    (g 2 : Int) = b2i (cmpF .geq (g 0) 0) ∧
    (g 3 : Int) = b2i (cmpF .geq (g 1) (g 0)) ∧
    (g 4 : Int) = clampv (g 0) 0 1152921504606846976 ∧
    (g 5 : Int) = b2i (clamph (g 0) 0 1152921504606846976) ∧
    (g 6 : Int) = (g 4) * 1073741824 ∧
    (g 9 : Int) = U 26 [g 6] ∧
    (g 10 : Int) = U 27 [g 6] ∧
    (g 11 : Int) = clampv (g 1) 0 1152921504606846976 ∧
    (g 12 : Int) = b2i (clamph (g 1) 0 1152921504606846976) ∧
    (g 13 : Int) = (bif ieq (g 5) 1 then 1 else (g 12)) ∧
    (g 14 : Int) = (g 11) * 1073741824 ∧
    (g 17 : Int) = U 26 [g 14] ∧
    (g 18 : Int) = U 27 [g 14] ∧
    (g 19 : Int) = b2i (cmpF .gtr (g 9) (g 17)) ∧
    (g 20 : Int) = b2i (cmpF .lss (g 0) 1048576) ∧
    (g 21 : Int) = b2i (cmpF .gtr (g 0) 1099511627776) :=
  ⟨hd _ (List.mem_of_getElem? (l := m3D) (i := 19) rfl), hd _ (List.mem_of_getElem? (l := m3D) (i := 18) rfl), hd _ (List.mem_of_getElem? (l := m3D) (i := 17) rfl), hd _ (List.mem_of_getElem? (l := m3D) (i := 16) rfl), hd _ (List.mem_of_getElem? (l := m3D) (i := 15) rfl), hd _ (List.mem_of_getElem? (l := m3D) (i := 12) rfl), hd _ (List.mem_of_getElem? (l := m3D) (i := 11) rfl), hd _ (List.mem_of_getElem? (l := m3D) (i := 10) rfl), hd _ (List.mem_of_getElem? (l := m3D) (i := 9) rfl), hd _ (List.mem_of_getElem? (l := m3D) (i := 8) rfl), hd _ (List.mem_of_getElem? (l := m3D) (i := 7) rfl), hd _ (List.mem_of_getElem? (l := m3D) (i := 4) rfl), hd _ (List.mem_of_getElem? (l := m3D) (i := 3) rfl), hd _ (List.mem_of_getElem? (l := m3D) (i := 2) rfl), hd _ (List.mem_of_getElem? (l := m3D) (i := 1) rfl), hd _ (List.mem_of_getElem? (l := m3D) (i := 0) rfl)⟩
def m4D : List (Nat × Pr × List A) := [(30, Pr.not, [A.x 26]), (29, Pr.cmp BinOp.geq, [A.x 27, A.k (Int.negSucc 1048575)]), (28, Pr.cmp BinOp.leq, [A.x 27, A.k (Int.ofNat 1048576)]), (27, Pr.iop BinOp.sub IntKind.i64, [A.x 24, A.x 0]), (26, Pr.sel, [A.x 23, A.k (Int.ofNat 1), A.x 25]), (25, Pr.u 5, [A.k (Int.ofNat 1073741824), A.x 22, A.k (Int.ofNat 30)]), (24, Pr.u 4, [A.k (Int.ofNat 1073741824), A.x 22, A.k (Int.ofNat 30)]), (23, Pr.u 5, [A.k (Int.ofNat 1073741824), A.x 0, A.k (Int.ofNat 30)]), (22, Pr.u 4, [A.k (Int.ofNat 1073741824), A.x 0, A.k (Int.ofNat 30)]), (21, Pr.cmp BinOp.gtr, [A.x 0, A.k (Int.ofNat 1099511627776)]), (20, Pr.cmp BinOp.lss, [A.x 0, A.k (Int.ofNat 1048576)]), (19, Pr.cmp BinOp.gtr, [A.x 9, A.x 17]), (18, Pr.u 27, [A.x 14]), (17, Pr.u 26, [A.x 14]), (16, Pr.u 22, [A.x 14]), (15, Pr.u 21, [A.x 14]), (14, Pr.u 20, [A.x 11, A.k (Int.ofNat 1073741824)]), (13, Pr.sel, [A.x 5, A.k (Int.ofNat 1), A.x 12]), (12, Pr.u 11, [A.x 1, A.k (Int.ofNat 0), A.k (Int.ofNat 1152921504606846976)]), (11, Pr.u 10, [A.x 1, A.k (Int.ofNat 0), A.k (Int.ofNat 1152921504606846976)]), (10, Pr.u 27, [A.x 6]), (9, Pr.u 26, [A.x 6]), (8, Pr.u 22, [A.x 6]), (7, Pr.u 21, [A.x 6]), (6, Pr.u 20, [A.x 4, A.k (Int.ofNat 1073741824)]), (5, Pr.u 11, [A.x 0, A.k (Int.ofNat 0), A.k (Int.ofNat 1152921504606846976)]), (4, Pr.u 10, [A.x 0, A.k (Int.ofNat 0), A.k (Int.ofNat 1152921504606846976)]), (3, Pr.cmp BinOp.geq, [A.x 1, A.x 0]), (2, Pr.cmp BinOp.geq, [A.x 0, A.k (Int.ofNat 0)])]
def m4S : St := { heap := [], next := 128, resv := [], nv := 31, defs := m4D, orc := [], cs := [(29, Bool.true), (28, Bool.true), (21, Bool.false), (20, Bool.false), (19, Bool.false), (3, Bool.true), (2, Bool.true)] }
set_option maxRecDepth 100000 in
theorem m4_ran : runCall Try.prog U X sums 100000 40 9 [.w (.c (.i .i64 (.x 0))), .w (.c (.i .i64 (.x 1)))] { st0 with nv := 2, orc := [true, true, false, false, false, true, true] } = some (V.w (W.c (C.b (A.x 30))), m4S) := by kernel_rfl
theorem m4_wf : wfD 2 m4S.nv m4S.defs = true := by kernel_rfl
theorem m4_eqs {g : Sg} (hd : DefsOk U g m4D) :
    (g 2 : Int) = b2i (cmpF .geq (g 0) 0) ∧
    (g 3 : Int) = b2i (cmpF .geq (g 1) (g 0)) ∧
    (g 4 : Int) = clampv (g 0) 0 1152921504606846976 ∧
    (g 5 : Int) = b2i (clamph (g 0) 0 1152921504606846976) ∧
    (g 6 : Int) = (g 4) * 1073741824 ∧
    (g 9 : Int) = U 26 [g 6] ∧
    (g 10 : Int) = U 27 [g 6] ∧
    (g 11 : Int) = clampv (g 1) 0 1152921504606846976 ∧
    (g 12 : Int) = b2i (clamph (g 1) 0 1152921504606846976) ∧
    (g 13 : Int) = (bif ieq (g 5) 1 then 1 else (g 12)) ∧
    (g 14 : Int) = (g 11) * 1073741824 ∧
    (g 17 : Int) = U 26 [g 14] ∧
    (g 18 : Int) = U 27 [g 14] ∧
    (g 19 : Int) = b2i (cmpF .gtr (g 9) (g 17)) ∧
    (g 20 : Int) = b2i (cmpF .lss (g 0) 1048576) ∧
    (g 21 : Int) = b2i (cmpF .gtr (g 0) 1099511627776) ∧
    (g 22 : Int) = divv (satv 1073741824 * 2 ^ 30) (satv (g 0)) ∧
    (g 23 : Int) = U 5 [1073741824, g 0, 30] ∧
    (g 24 : Int) = divv (satv 1073741824 * 2 ^ 30) (satv (g 22)) ∧
    (g 25 : Int) = U 5 [1073741824, g 22, 30] ∧
    (g 26 : Int) = (bif ieq (g 23) 1 then 1 else (g 25)) ∧
    (g 27 : Int) = wrapF .i64 ((g 24) - (g 0)) ∧
    (g 28 : Int) = b2i (cmpF .leq (g 27) 1048576) ∧
    (g 29 : Int) = b2i (cmpF .geq (g 27) (-1048576)) ∧
    (g 30 : Int) = b2i (!ieq (g 26) 1) :=
  ⟨hd _ (List.mem_of_getElem? (l := m4D) (i := 28) rfl), hd _ (List.mem_of_getElem? (l := m4D) (i := 27) rfl), hd _ (List.mem_of_getElem? (l := m4D) (i := 26) rfl), hd _ (List.mem_of_getElem? (l := m4D) (i := 25) rfl), hd _ (List.mem_of_getElem? (l := m4D) (i := 24) rfl), hd _ (List.mem_of_getElem? (l := m4D) (i := 21) rfl), hd _ (List.mem_of_getElem? (l := m4D) (i := 20) rfl), hd _ (List.mem_of_getElem? (l := m4D) (i := 19) rfl), hd _ (List.mem_of_getElem? (l := m4D) (i := 18) rfl), hd _ (List.mem_of_getElem? (l := m4D) (i := 17) rfl), hd _ (List.mem_of_getElem? (l := m4D) (i := 16) rfl), hd _ (List.mem_of_getElem? (l := m4D) (i := 13) rfl), hd _ (List.mem_of_getElem? (l := m4D) (i := 12) rfl), hd _ (List.mem_of_getElem? (l := m4D) (i := 11) rfl), hd _ (List.mem_of_getElem? (l := m4D) (i := 10) rfl), hd _ (List.mem_of_getElem? (l := m4D) (i := 9) rfl), hd _ (List.mem_of_getElem? (l := m4D) (i := 8) rfl), hd _ (List.mem_of_getElem? (l := m4D) (i := 7) rfl), hd _ (List.mem_of_getElem? (l := m4D) (i := 6) rfl), hd _ (List.mem_of_getElem? (l := m4D) (i := 5) rfl), hd _ (List.mem_of_getElem? (l := m4D) (i := 4) rfl), hd _ (List.mem_of_getElem? (l := m4D) (i := 3) rfl), hd _ (List.mem_of_getElem? (l := m4D) (i := 2) rfl), hd _ (List.mem_of_getElem? (l := m4D) (i := 1) rfl), hd _ (List.mem_of_getElem? (l := m4D) (i := 0) rfl)⟩
end Go.Proofs.Ytahedampmjfoeaa.rootRises
