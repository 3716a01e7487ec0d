/- astrolabelaw2.FxFlags, length by length. -/
import Derived.Test.YtchdlanichhkcaaFxFlagsD
namespace Go.Proofs.Ytchdlanichhkcaa.fxFlags
open Go
set_option maxRecDepth 1000000 in
theorem c0_11 : SX.lawF [.one (some .i64), .one (some .i64), .sl 11 [none]] (facts0 11) (SX.runPol SX.lk SX.U SX.X SX.awS mcF mlF 100000 40 7 (SX.startF [.one (some .i64), .one (some .i64), .sl 11 [none]] (facts0 11)).1 (SX.startF [.one (some .i64), .one (some .i64), .sl 11 [none]] (facts0 11)).2) = true := by kernel_rfl
set_option maxRecDepth 1000000 in
theorem c0_15 : SX.lawF [.one (some .i64), .one (some .i64), .sl 15 [none]] (facts0 15) (SX.runPol SX.lk SX.U SX.X SX.awS mcF mlF 100000 40 7 (SX.startF [.one (some .i64), .one (some .i64), .sl 15 [none]] (facts0 15)).1 (SX.startF [.one (some .i64), .one (some .i64), .sl 15 [none]] (facts0 15)).2) = true := by kernel_rfl
set_option maxRecDepth 1000000 in
theorem c0_22 : SX.lawF [.one (some .i64), .one (some .i64), .sl 22 [none]] (facts0 22) (SX.runPol SX.lk SX.U SX.X SX.awS mcF mlF 100000 40 7 (SX.startF [.one (some .i64), .one (some .i64), .sl 22 [none]] (facts0 22)).1 (SX.startF [.one (some .i64), .one (some .i64), .sl 22 [none]] (facts0 22)).2) = true := by kernel_rfl
set_option maxRecDepth 1000000 in
theorem c0_31 : SX.lawF [.one (some .i64), .one (some .i64), .sl 31 [none]] (facts0 31) (SX.runPol SX.lk SX.U SX.X SX.awS mcF mlF 100000 40 7 (SX.startF [.one (some .i64), .one (some .i64), .sl 31 [none]] (facts0 31)).1 (SX.startF [.one (some .i64), .one (some .i64), .sl 31 [none]] (facts0 31)).2) = true := by kernel_rfl
set_option maxRecDepth 1000000 in
theorem c0_33 : SX.lawF [.one (some .i64), .one (some .i64), .sl 33 [none]] (facts0 33) (SX.runPol SX.lk SX.U SX.X SX.awS mcF mlF 100000 40 7 (SX.startF [.one (some .i64), .one (some .i64), .sl 33 [none]] (facts0 33)).1 (SX.startF [.one (some .i64), .one (some .i64), .sl 33 [none]] (facts0 33)).2) = true := by kernel_rfl
set_option maxRecDepth 1000000 in
theorem c0_37 : SX.lawF [.one (some .i64), .one (some .i64), .sl 37 [none]] (facts0 37) (SX.runPol SX.lk SX.U SX.X SX.awS mcF mlF 100000 40 7 (SX.startF [.one (some .i64), .one (some .i64), .sl 37 [none]] (facts0 37)).1 (SX.startF [.one (some .i64), .one (some .i64), .sl 37 [none]] (facts0 37)).2) = true := by kernel_rfl
set_option maxRecDepth 1000000 in
theorem c0_44 : SX.lawF [.one (some .i64), .one (some .i64), .sl 44 [none]] (facts0 44) (SX.runPol SX.lk SX.U SX.X SX.awS mcF mlF 100000 40 7 (SX.startF [.one (some .i64), .one (some .i64), .sl 44 [none]] (facts0 44)).1 (SX.startF [.one (some .i64), .one (some .i64), .sl 44 [none]] (facts0 44)).2) = true := by kernel_rfl
set_option maxRecDepth 1000000 in
theorem c1_1 : SX.lawF [.one (some .i64), .one (some .i64), .sl 1 [none]] (facts1 1) (SX.runPol SX.lk SX.U SX.X SX.awS mcF mlF 100000 40 7 (SX.startF [.one (some .i64), .one (some .i64), .sl 1 [none]] (facts1 1)).1 (SX.startF [.one (some .i64), .one (some .i64), .sl 1 [none]] (facts1 1)).2) = true := by kernel_rfl
set_option maxRecDepth 1000000 in
theorem c1_2 : SX.lawF [.one (some .i64), .one (some .i64), .sl 2 [none]] (facts1 2) (SX.runPol SX.lk SX.U SX.X SX.awS mcF mlF 100000 40 7 (SX.startF [.one (some .i64), .one (some .i64), .sl 2 [none]] (facts1 2)).1 (SX.startF [.one (some .i64), .one (some .i64), .sl 2 [none]] (facts1 2)).2) = true := by kernel_rfl
set_option maxRecDepth 1000000 in
theorem c1_4 : SX.lawF [.one (some .i64), .one (some .i64), .sl 4 [none]] (facts1 4) (SX.runPol SX.lk SX.U SX.X SX.awS mcF mlF 100000 40 7 (SX.startF [.one (some .i64), .one (some .i64), .sl 4 [none]] (facts1 4)).1 (SX.startF [.one (some .i64), .one (some .i64), .sl 4 [none]] (facts1 4)).2) = true := by kernel_rfl
set_option maxRecDepth 1000000 in
theorem c1_27 : SX.lawF [.one (some .i64), .one (some .i64), .sl 27 [none]] (facts1 27) (SX.runPol SX.lk SX.U SX.X SX.awS mcF mlF 100000 40 7 (SX.startF [.one (some .i64), .one (some .i64), .sl 27 [none]] (facts1 27)).1 (SX.startF [.one (some .i64), .one (some .i64), .sl 27 [none]] (facts1 27)).2) = true := by kernel_rfl
set_option maxRecDepth 1000000 in
theorem c1_29 : SX.lawF [.one (some .i64), .one (some .i64), .sl 29 [none]] (facts1 29) (SX.runPol SX.lk SX.U SX.X SX.awS mcF mlF 100000 40 7 (SX.startF [.one (some .i64), .one (some .i64), .sl 29 [none]] (facts1 29)).1 (SX.startF [.one (some .i64), .one (some .i64), .sl 29 [none]] (facts1 29)).2) = true := by kernel_rfl
set_option maxRecDepth 1000000 in
theorem c1_35 : SX.lawF [.one (some .i64), .one (some .i64), .sl 35 [none]] (facts1 35) (SX.runPol SX.lk SX.U SX.X SX.awS mcF mlF 100000 40 7 (SX.startF [.one (some .i64), .one (some .i64), .sl 35 [none]] (facts1 35)).1 (SX.startF [.one (some .i64), .one (some .i64), .sl 35 [none]] (facts1 35)).2) = true := by kernel_rfl
set_option maxRecDepth 1000000 in
theorem c1_41 : SX.lawF [.one (some .i64), .one (some .i64), .sl 41 [none]] (facts1 41) (SX.runPol SX.lk SX.U SX.X SX.awS mcF mlF 100000 40 7 (SX.startF [.one (some .i64), .one (some .i64), .sl 41 [none]] (facts1 41)).1 (SX.startF [.one (some .i64), .one (some .i64), .sl 41 [none]] (facts1 41)).2) = true := by kernel_rfl
set_option maxRecDepth 1000000 in
theorem c1_47 : SX.lawF [.one (some .i64), .one (some .i64), .sl 47 [none]] (facts1 47) (SX.runPol SX.lk SX.U SX.X SX.awS mcF mlF 100000 40 7 (SX.startF [.one (some .i64), .one (some .i64), .sl 47 [none]] (facts1 47)).1 (SX.startF [.one (some .i64), .one (some .i64), .sl 47 [none]] (facts1 47)).2) = true := by kernel_rfl
set_option maxRecDepth 1000000 in
theorem c2_8 : SX.lawF [.one (some .i64), .one (some .i64), .sl 8 [none]] (facts2 8) (SX.runPol SX.lk SX.U SX.X SX.awS mcF mlF 100000 40 7 (SX.startF [.one (some .i64), .one (some .i64), .sl 8 [none]] (facts2 8)).1 (SX.startF [.one (some .i64), .one (some .i64), .sl 8 [none]] (facts2 8)).2) = true := by kernel_rfl
set_option maxRecDepth 1000000 in
theorem c2_19 : SX.lawF [.one (some .i64), .one (some .i64), .sl 19 [none]] (facts2 19) (SX.runPol SX.lk SX.U SX.X SX.awS mcF mlF 100000 40 7 (SX.startF [.one (some .i64), .one (some .i64), .sl 19 [none]] (facts2 19)).1 (SX.startF [.one (some .i64), .one (some .i64), .sl 19 [none]] (facts2 19)).2) = true := by kernel_rfl
set_option maxRecDepth 1000000 in
theorem c2_24 : SX.lawF [.one (some .i64), .one (some .i64), .sl 24 [none]] (facts2 24) (SX.runPol SX.lk SX.U SX.X SX.awS mcF mlF 100000 40 7 (SX.startF [.one (some .i64), .one (some .i64), .sl 24 [none]] (facts2 24)).1 (SX.startF [.one (some .i64), .one (some .i64), .sl 24 [none]] (facts2 24)).2) = true := by kernel_rfl
set_option maxRecDepth 1000000 in
theorem c2_25 : SX.lawF [.one (some .i64), .one (some .i64), .sl 25 [none]] (facts2 25) (SX.runPol SX.lk SX.U SX.X SX.awS mcF mlF 100000 40 7 (SX.startF [.one (some .i64), .one (some .i64), .sl 25 [none]] (facts2 25)).1 (SX.startF [.one (some .i64), .one (some .i64), .sl 25 [none]] (facts2 25)).2) = true := by kernel_rfl
set_option maxRecDepth 1000000 in
theorem c2_28 : SX.lawF [.one (some .i64), .one (some .i64), .sl 28 [none]] (facts2 28) (SX.runPol SX.lk SX.U SX.X SX.awS mcF mlF 100000 40 7 (SX.startF [.one (some .i64), .one (some .i64), .sl 28 [none]] (facts2 28)).1 (SX.startF [.one (some .i64), .one (some .i64), .sl 28 [none]] (facts2 28)).2) = true := by kernel_rfl
set_option maxRecDepth 1000000 in
theorem c2_38 : SX.lawF [.one (some .i64), .one (some .i64), .sl 38 [none]] (facts2 38) (SX.runPol SX.lk SX.U SX.X SX.awS mcF mlF 100000 40 7 (SX.startF [.one (some .i64), .one (some .i64), .sl 38 [none]] (facts2 38)).1 (SX.startF [.one (some .i64), .one (some .i64), .sl 38 [none]] (facts2 38)).2) = true := by kernel_rfl
set_option maxRecDepth 1000000 in
theorem c2_42 : SX.lawF [.one (some .i64), .one (some .i64), .sl 42 [none]] (facts2 42) (SX.runPol SX.lk SX.U SX.X SX.awS mcF mlF 100000 40 7 (SX.startF [.one (some .i64), .one (some .i64), .sl 42 [none]] (facts2 42)).1 (SX.startF [.one (some .i64), .one (some .i64), .sl 42 [none]] (facts2 42)).2) = true := by kernel_rfl
set_option maxRecDepth 1000000 in
theorem c2_45 : SX.lawF [.one (some .i64), .one (some .i64), .sl 45 [none]] (facts2 45) (SX.runPol SX.lk SX.U SX.X SX.awS mcF mlF 100000 40 7 (SX.startF [.one (some .i64), .one (some .i64), .sl 45 [none]] (facts2 45)).1 (SX.startF [.one (some .i64), .one (some .i64), .sl 45 [none]] (facts2 45)).2) = true := by kernel_rfl
set_option maxRecDepth 1000000 in
theorem c2_48 : SX.lawF [.one (some .i64), .one (some .i64), .sl 48 [none]] (facts2 48) (SX.runPol SX.lk SX.U SX.X SX.awS mcF mlF 100000 40 7 (SX.startF [.one (some .i64), .one (some .i64), .sl 48 [none]] (facts2 48)).1 (SX.startF [.one (some .i64), .one (some .i64), .sl 48 [none]] (facts2 48)).2) = true := by kernel_rfl
set_option maxRecDepth 1000000 in
theorem c3_8 : SX.lawF [.one (some .i64), .one (some .i64), .sl 8 [none]] (facts3 8) (SX.runPol SX.lk SX.U SX.X SX.awS mcF mlF 100000 40 7 (SX.startF [.one (some .i64), .one (some .i64), .sl 8 [none]] (facts3 8)).1 (SX.startF [.one (some .i64), .one (some .i64), .sl 8 [none]] (facts3 8)).2) = true := by kernel_rfl
set_option maxRecDepth 1000000 in
theorem c3_11 : SX.lawF [.one (some .i64), .one (some .i64), .sl 11 [none]] (facts3 11) (SX.runPol SX.lk SX.U SX.X SX.awS mcF mlF 100000 40 7 (SX.startF [.one (some .i64), .one (some .i64), .sl 11 [none]] (facts3 11)).1 (SX.startF [.one (some .i64), .one (some .i64), .sl 11 [none]] (facts3 11)).2) = true := by kernel_rfl
set_option maxRecDepth 1000000 in
theorem c3_15 : SX.lawF [.one (some .i64), .one (some .i64), .sl 15 [none]] (facts3 15) (SX.runPol SX.lk SX.U SX.X SX.awS mcF mlF 100000 40 7 (SX.startF [.one (some .i64), .one (some .i64), .sl 15 [none]] (facts3 15)).1 (SX.startF [.one (some .i64), .one (some .i64), .sl 15 [none]] (facts3 15)).2) = true := by kernel_rfl
set_option maxRecDepth 1000000 in
theorem c3_18 : SX.lawF [.one (some .i64), .one (some .i64), .sl 18 [none]] (facts3 18) (SX.runPol SX.lk SX.U SX.X SX.awS mcF mlF 100000 40 7 (SX.startF [.one (some .i64), .one (some .i64), .sl 18 [none]] (facts3 18)).1 (SX.startF [.one (some .i64), .one (some .i64), .sl 18 [none]] (facts3 18)).2) = true := by kernel_rfl
set_option maxRecDepth 1000000 in
theorem c3_22 : SX.lawF [.one (some .i64), .one (some .i64), .sl 22 [none]] (facts3 22) (SX.runPol SX.lk SX.U SX.X SX.awS mcF mlF 100000 40 7 (SX.startF [.one (some .i64), .one (some .i64), .sl 22 [none]] (facts3 22)).1 (SX.startF [.one (some .i64), .one (some .i64), .sl 22 [none]] (facts3 22)).2) = true := by kernel_rfl
set_option maxRecDepth 1000000 in
theorem c3_33 : SX.lawF [.one (some .i64), .one (some .i64), .sl 33 [none]] (facts3 33) (SX.runPol SX.lk SX.U SX.X SX.awS mcF mlF 100000 40 7 (SX.startF [.one (some .i64), .one (some .i64), .sl 33 [none]] (facts3 33)).1 (SX.startF [.one (some .i64), .one (some .i64), .sl 33 [none]] (facts3 33)).2) = true := by kernel_rfl
set_option maxRecDepth 1000000 in
theorem c3_39 : SX.lawF [.one (some .i64), .one (some .i64), .sl 39 [none]] (facts3 39) (SX.runPol SX.lk SX.U SX.X SX.awS mcF mlF 100000 40 7 (SX.startF [.one (some .i64), .one (some .i64), .sl 39 [none]] (facts3 39)).1 (SX.startF [.one (some .i64), .one (some .i64), .sl 39 [none]] (facts3 39)).2) = true := by kernel_rfl
set_option maxRecDepth 1000000 in
theorem c3_49 : SX.lawF [.one (some .i64), .one (some .i64), .sl 49 [none]] (facts3 49) (SX.runPol SX.lk SX.U SX.X SX.awS mcF mlF 100000 40 7 (SX.startF [.one (some .i64), .one (some .i64), .sl 49 [none]] (facts3 49)).1 (SX.startF [.one (some .i64), .one (some .i64), .sl 49 [none]] (facts3 49)).2) = true := by kernel_rfl
set_option maxRecDepth 1000000 in
theorem c4_1 : SX.lawF [.one (some .i64), .one (some .i64), .sl 1 [none]] (facts4 1) (SX.runPol SX.lk SX.U SX.X SX.awS mcF mlF 100000 40 7 (SX.startF [.one (some .i64), .one (some .i64), .sl 1 [none]] (facts4 1)).1 (SX.startF [.one (some .i64), .one (some .i64), .sl 1 [none]] (facts4 1)).2) = true := by kernel_rfl
set_option maxRecDepth 1000000 in
theorem c4_2 : SX.lawF [.one (some .i64), .one (some .i64), .sl 2 [none]] (facts4 2) (SX.runPol SX.lk SX.U SX.X SX.awS mcF mlF 100000 40 7 (SX.startF [.one (some .i64), .one (some .i64), .sl 2 [none]] (facts4 2)).1 (SX.startF [.one (some .i64), .one (some .i64), .sl 2 [none]] (facts4 2)).2) = true := by kernel_rfl
set_option maxRecDepth 1000000 in
theorem c4_6 : SX.lawF [.one (some .i64), .one (some .i64), .sl 6 [none]] (facts4 6) (SX.runPol SX.lk SX.U SX.X SX.awS mcF mlF 100000 40 7 (SX.startF [.one (some .i64), .one (some .i64), .sl 6 [none]] (facts4 6)).1 (SX.startF [.one (some .i64), .one (some .i64), .sl 6 [none]] (facts4 6)).2) = true := by kernel_rfl
set_option maxRecDepth 1000000 in
theorem c4_8 : SX.lawF [.one (some .i64), .one (some .i64), .sl 8 [none]] (facts4 8) (SX.runPol SX.lk SX.U SX.X SX.awS mcF mlF 100000 40 7 (SX.startF [.one (some .i64), .one (some .i64), .sl 8 [none]] (facts4 8)).1 (SX.startF [.one (some .i64), .one (some .i64), .sl 8 [none]] (facts4 8)).2) = true := by kernel_rfl
set_option maxRecDepth 1000000 in
theorem c4_20 : SX.lawF [.one (some .i64), .one (some .i64), .sl 20 [none]] (facts4 20) (SX.runPol SX.lk SX.U SX.X SX.awS mcF mlF 100000 40 7 (SX.startF [.one (some .i64), .one (some .i64), .sl 20 [none]] (facts4 20)).1 (SX.startF [.one (some .i64), .one (some .i64), .sl 20 [none]] (facts4 20)).2) = true := by kernel_rfl
set_option maxRecDepth 1000000 in
theorem c4_21 : SX.lawF [.one (some .i64), .one (some .i64), .sl 21 [none]] (facts4 21) (SX.runPol SX.lk SX.U SX.X SX.awS mcF mlF 100000 40 7 (SX.startF [.one (some .i64), .one (some .i64), .sl 21 [none]] (facts4 21)).1 (SX.startF [.one (some .i64), .one (some .i64), .sl 21 [none]] (facts4 21)).2) = true := by kernel_rfl
set_option maxRecDepth 1000000 in
theorem c4_27 : SX.lawF [.one (some .i64), .one (some .i64), .sl 27 [none]] (facts4 27) (SX.runPol SX.lk SX.U SX.X SX.awS mcF mlF 100000 40 7 (SX.startF [.one (some .i64), .one (some .i64), .sl 27 [none]] (facts4 27)).1 (SX.startF [.one (some .i64), .one (some .i64), .sl 27 [none]] (facts4 27)).2) = true := by kernel_rfl
set_option maxRecDepth 1000000 in
theorem c4_38 : SX.lawF [.one (some .i64), .one (some .i64), .sl 38 [none]] (facts4 38) (SX.runPol SX.lk SX.U SX.X SX.awS mcF mlF 100000 40 7 (SX.startF [.one (some .i64), .one (some .i64), .sl 38 [none]] (facts4 38)).1 (SX.startF [.one (some .i64), .one (some .i64), .sl 38 [none]] (facts4 38)).2) = true := by kernel_rfl
set_option maxRecDepth 1000000 in
theorem c4_44 : SX.lawF [.one (some .i64), .one (some .i64), .sl 44 [none]] (facts4 44) (SX.runPol SX.lk SX.U SX.X SX.awS mcF mlF 100000 40 7 (SX.startF [.one (some .i64), .one (some .i64), .sl 44 [none]] (facts4 44)).1 (SX.startF [.one (some .i64), .one (some .i64), .sl 44 [none]] (facts4 44)).2) = true := by kernel_rfl
set_option maxRecDepth 1000000 in
theorem c4_45 : SX.lawF [.one (some .i64), .one (some .i64), .sl 45 [none]] (facts4 45) (SX.runPol SX.lk SX.U SX.X SX.awS mcF mlF 100000 40 7 (SX.startF [.one (some .i64), .one (some .i64), .sl 45 [none]] (facts4 45)).1 (SX.startF [.one (some .i64), .one (some .i64), .sl 45 [none]] (facts4 45)).2) = true := by kernel_rfl
end Go.Proofs.Ytchdlanichhkcaa.fxFlags
