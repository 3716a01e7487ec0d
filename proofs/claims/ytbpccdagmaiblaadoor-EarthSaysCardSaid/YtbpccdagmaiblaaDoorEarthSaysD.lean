/- astrolabelaw8.EarthSays: its cases. -/
import Derived.Test.YtbpccdagmaiblaaDoorEarthD
namespace Go.Proofs.YtbpccdagmaiblaaDoor.earthSays
open Go SX
noncomputable section
def arsE : List Ar := [.agg [some .i64, some .i64, some .i64], .agg [some .i64, some .i64, some .i64]]
def dsE : Defs := [(6, .conv .i64, [.x 0]), (7, .conv .i64, [.x 1]), (8, .conv .i64, [.x 2]), (9, .conv .i64, [.x 3]), (10, .conv .i64, [.x 4]), (11, .conv .i64, [.x 5])]
/-- The way from one Lon to another: the long one to the west, to the east, the short one; n names it. -/
def lonC (n : Nat) : Nat → Fac
  | 0 => highF n 1800000000
  | 1 => lowF n (-1799999999)
  | _ => inF n (-1799999999) 1800000000
def lonN (r k : Nat) : Nat := ([[83, 83, 83, 83, 83, 82, 80], [83, 83, 83, 83, 83, 82, 80], [83, 83, 83, 83, 83, 83, 81], [83, 83, 83, 83, 83, 83, 81], [81, 81, 81, 81, 81, 81, 79]].getD r []).getD k 0
def dsC (r k : Nat) : Defs := dsE ++ [(lonN r k, .lin 0 [-1, 1], [.x 7, .x 10])]
def runD (ds : Defs) (fs : Fac) : Bool := lawG tbE arsE fs ds (.k 1) (runPol lk U X sumsV never never0 100000 40 4 (startG tbE arsE fs).1 (startG tbE arsE fs).2)
def cellP (r k : Nat) : Fac := rowF 9 r ++ (colF 10 k ++ inF 11 (-100000000) 100000000)
/-- A place within a step of the table. -/
def okC (r k : Nat) : Bool := (List.range 8).all (fun j => runD dsE (cellP r k ++ badO 6 j)) && (List.range 3).all (fun j => (Nat.blt k 3 && Nat.beq j 0) || runD (dsC r k) (cellP r k ++ (goodO 6 ++ lonC (lonN r k) j)))
/-- A place that may not be. -/
def okA (i : Nat) : Bool := (List.range 8).all (fun j => runD dsE (badF 9 i ++ badO 6 j)) && runD dsE (badF 9 i ++ goodO 6)
end
end Go.Proofs.YtbpccdagmaiblaaDoor.earthSays
