/- astrolabelaw7.RotSquares: what its conditions hang on. -/
import Derived.Test.YtplojnnjkpeifaaAwakes
namespace Go.Proofs.Ytplojnnjkpeifaa.rotSquares
open Go SX
noncomputable section
def d0 : SX.Defs := [(25, Pr.sel, [A.x 23, A.x 24, A.k (Int.ofNat 0)]), (24, Pr.cmp BinOp.eql, [A.x 16, A.k (Int.ofNat 0)]), (23, Pr.sel, [A.x 21, A.x 22, A.k (Int.ofNat 0)]), (22, Pr.cmp BinOp.eql, [A.x 13, A.k (Int.ofNat 0)]), (21, Pr.sel, [A.x 19, A.x 20, A.k (Int.ofNat 0)]), (20, Pr.cmp BinOp.eql, [A.x 10, A.k (Int.ofNat 0)]), (19, Pr.cmp BinOp.eql, [A.x 8, A.k (Int.ofNat 0)]), (18, Pr.sel, [A.x 15, A.k (Int.ofNat 1), A.x 17]), (17, Pr.u 1, [A.x 7]), (16, Pr.u 0, [A.x 7]), (15, Pr.sel, [A.x 12, A.k (Int.ofNat 1), A.x 14]), (14, Pr.u 1, [A.x 6]), (13, Pr.u 0, [A.x 6]), (12, Pr.sel, [A.x 9, A.k (Int.ofNat 1), A.x 11]), (11, Pr.u 1, [A.x 5]), (10, Pr.u 0, [A.x 5]), (9, Pr.u 1, [A.x 4]), (8, Pr.u 0, [A.x 4]), (7, Pr.conv IntKind.i64, [A.x 3]), (6, Pr.conv IntKind.i64, [A.x 2]), (5, Pr.conv IntKind.i64, [A.x 1]), (4, Pr.conv IntKind.i64, [A.x 0])]
def run (o : List Bool) : Option (SX.V × SX.St) := SX.runPol SX.lk SX.U SX.X SX.sumsA (SX.never) (SX.never0) 100000 40 8 (SX.startW [.agg [some .i64, some .i64, some .i64, some .i64]] o).1 (SX.startW [.agg [some .i64, some .i64, some .i64, some .i64]] o).2
end
end Go.Proofs.Ytplojnnjkpeifaa.rotSquares
