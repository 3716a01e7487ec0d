/- astrolabelaw8.EarthBounds: its cases. -/
import Derived.Test.YtbpccdagmaiblaaDoorEarthD
import Derived.KernelRfl
namespace Go.Proofs.YtbpccdagmaiblaaDoor.earthBounds
open Go SX
noncomputable section
def arsB : List Ar := [.agg [some .i64, some .i64, some .i64], .agg [some .i64, some .i64, some .i64], .agg [some .i64, some .i64, some .i64]]
def dsB : Defs := [(9, .conv .i64, [.x 0]), (10, .conv .i64, [.x 1]), (11, .conv .i64, [.x 2]), (12, .conv .i64, [.x 3]), (13, .conv .i64, [.x 4]), (14, .conv .i64, [.x 5]), (15, .conv .i64, [.x 6]), (16, .conv .i64, [.x 7]), (17, .conv .i64, [.x 8])]
/-- What New's root stands for. -/
def dsN : Defs := [(25, .u 6, [.x 9, .k 3373259426, .k 1800000000]), (26, .u 36, [.x 25]), (31, .u 2, [.x 26, .x 26, .k 30]), (32, .u 2, [.x 31, .k 7188036, .k 30]), (33, .lin 1073741824 [-1], [.x 32]), (34, .u 30, [.x 33])]
def rootB : Fac := [(false, .k 1070000000, .x 34, true), (false, .x 34, .k 1073741830, true)]
def runB (ds : Defs) (fs : Fac) : Bool := lawG tbE arsB fs ds (.k 1) (runPol lk U X sumsV (fun f => Nat.beq f 28) never0 100000 40 7 (startG tbE arsB fs).1 (startG tbE arsB fs).2)
def cellB (r k : Nat) : Fac := rowF 12 r ++ (colF 13 k ++ inF 14 (-100000000) 100000000)
set_option maxRecDepth 1000000 in
theorem okO : (List.range 8).all (fun j => runB dsB (badO 9 j)) = true := by kernel_rfl
set_option maxRecDepth 1000000 in
theorem okP : (List.range 6).all (fun j => runB dsB (goodO 9 ++ badF 12 j)) = true := by kernel_rfl
set_option maxRecDepth 1000000 in
theorem okQ : (List.range 6).all (fun j => runB dsB (goodO 9 ++ (goodF 12 ++ badF 15 j))) = true := by kernel_rfl
def okB (r k : Nat) : Bool := runB (dsB ++ dsN) (goodO 9 ++ (cellB r k ++ (goodF 15 ++ rootB)))
end
end Go.Proofs.YtbpccdagmaiblaaDoor.earthBounds
