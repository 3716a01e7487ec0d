/- astrolabelaw2.FxFlags, length by length. -/
import Derived.Test.YtchdlanichhkcaaFxFlagsD
namespace Go.Proofs.Ytchdlanichhkcaa.fxFlags
open Go
set_option maxRecDepth 1000000 in
theorem c0_8 : SX.lawF [.one (some .i64), .one (some .i64), .sl 8 [none]] (facts0 8) (SX.runPol SX.lk SX.U SX.X SX.awS mcF mlF 100000 40 7 (SX.startF [.one (some .i64), .one (some .i64), .sl 8 [none]] (facts0 8)).1 (SX.startF [.one (some .i64), .one (some .i64), .sl 8 [none]] (facts0 8)).2) = true := by kernel_rfl
set_option maxRecDepth 1000000 in
theorem c0_13 : SX.lawF [.one (some .i64), .one (some .i64), .sl 13 [none]] (facts0 13) (SX.runPol SX.lk SX.U SX.X SX.awS mcF mlF 100000 40 7 (SX.startF [.one (some .i64), .one (some .i64), .sl 13 [none]] (facts0 13)).1 (SX.startF [.one (some .i64), .one (some .i64), .sl 13 [none]] (facts0 13)).2) = true := by kernel_rfl
set_option maxRecDepth 1000000 in
theorem c0_14 : SX.lawF [.one (some .i64), .one (some .i64), .sl 14 [none]] (facts0 14) (SX.runPol SX.lk SX.U SX.X SX.awS mcF mlF 100000 40 7 (SX.startF [.one (some .i64), .one (some .i64), .sl 14 [none]] (facts0 14)).1 (SX.startF [.one (some .i64), .one (some .i64), .sl 14 [none]] (facts0 14)).2) = true := by kernel_rfl
set_option maxRecDepth 1000000 in
theorem c0_16 : SX.lawF [.one (some .i64), .one (some .i64), .sl 16 [none]] (facts0 16) (SX.runPol SX.lk SX.U SX.X SX.awS mcF mlF 100000 40 7 (SX.startF [.one (some .i64), .one (some .i64), .sl 16 [none]] (facts0 16)).1 (SX.startF [.one (some .i64), .one (some .i64), .sl 16 [none]] (facts0 16)).2) = true := by kernel_rfl
set_option maxRecDepth 1000000 in
theorem c0_34 : SX.lawF [.one (some .i64), .one (some .i64), .sl 34 [none]] (facts0 34) (SX.runPol SX.lk SX.U SX.X SX.awS mcF mlF 100000 40 7 (SX.startF [.one (some .i64), .one (some .i64), .sl 34 [none]] (facts0 34)).1 (SX.startF [.one (some .i64), .one (some .i64), .sl 34 [none]] (facts0 34)).2) = true := by kernel_rfl
set_option maxRecDepth 1000000 in
theorem c0_45 : SX.lawF [.one (some .i64), .one (some .i64), .sl 45 [none]] (facts0 45) (SX.runPol SX.lk SX.U SX.X SX.awS mcF mlF 100000 40 7 (SX.startF [.one (some .i64), .one (some .i64), .sl 45 [none]] (facts0 45)).1 (SX.startF [.one (some .i64), .one (some .i64), .sl 45 [none]] (facts0 45)).2) = true := by kernel_rfl
set_option maxRecDepth 1000000 in
theorem c1_6 : SX.lawF [.one (some .i64), .one (some .i64), .sl 6 [none]] (facts1 6) (SX.runPol SX.lk SX.U SX.X SX.awS mcF mlF 100000 40 7 (SX.startF [.one (some .i64), .one (some .i64), .sl 6 [none]] (facts1 6)).1 (SX.startF [.one (some .i64), .one (some .i64), .sl 6 [none]] (facts1 6)).2) = true := by kernel_rfl
set_option maxRecDepth 1000000 in
theorem c1_11 : SX.lawF [.one (some .i64), .one (some .i64), .sl 11 [none]] (facts1 11) (SX.runPol SX.lk SX.U SX.X SX.awS mcF mlF 100000 40 7 (SX.startF [.one (some .i64), .one (some .i64), .sl 11 [none]] (facts1 11)).1 (SX.startF [.one (some .i64), .one (some .i64), .sl 11 [none]] (facts1 11)).2) = true := by kernel_rfl
set_option maxRecDepth 1000000 in
theorem c1_18 : SX.lawF [.one (some .i64), .one (some .i64), .sl 18 [none]] (facts1 18) (SX.runPol SX.lk SX.U SX.X SX.awS mcF mlF 100000 40 7 (SX.startF [.one (some .i64), .one (some .i64), .sl 18 [none]] (facts1 18)).1 (SX.startF [.one (some .i64), .one (some .i64), .sl 18 [none]] (facts1 18)).2) = true := by kernel_rfl
set_option maxRecDepth 1000000 in
theorem c1_21 : SX.lawF [.one (some .i64), .one (some .i64), .sl 21 [none]] (facts1 21) (SX.runPol SX.lk SX.U SX.X SX.awS mcF mlF 100000 40 7 (SX.startF [.one (some .i64), .one (some .i64), .sl 21 [none]] (facts1 21)).1 (SX.startF [.one (some .i64), .one (some .i64), .sl 21 [none]] (facts1 21)).2) = true := by kernel_rfl
set_option maxRecDepth 1000000 in
theorem c1_31 : SX.lawF [.one (some .i64), .one (some .i64), .sl 31 [none]] (facts1 31) (SX.runPol SX.lk SX.U SX.X SX.awS mcF mlF 100000 40 7 (SX.startF [.one (some .i64), .one (some .i64), .sl 31 [none]] (facts1 31)).1 (SX.startF [.one (some .i64), .one (some .i64), .sl 31 [none]] (facts1 31)).2) = true := by kernel_rfl
set_option maxRecDepth 1000000 in
theorem c1_32 : SX.lawF [.one (some .i64), .one (some .i64), .sl 32 [none]] (facts1 32) (SX.runPol SX.lk SX.U SX.X SX.awS mcF mlF 100000 40 7 (SX.startF [.one (some .i64), .one (some .i64), .sl 32 [none]] (facts1 32)).1 (SX.startF [.one (some .i64), .one (some .i64), .sl 32 [none]] (facts1 32)).2) = true := by kernel_rfl
set_option maxRecDepth 1000000 in
theorem c1_37 : SX.lawF [.one (some .i64), .one (some .i64), .sl 37 [none]] (facts1 37) (SX.runPol SX.lk SX.U SX.X SX.awS mcF mlF 100000 40 7 (SX.startF [.one (some .i64), .one (some .i64), .sl 37 [none]] (facts1 37)).1 (SX.startF [.one (some .i64), .one (some .i64), .sl 37 [none]] (facts1 37)).2) = true := by kernel_rfl
set_option maxRecDepth 1000000 in
theorem c1_42 : SX.lawF [.one (some .i64), .one (some .i64), .sl 42 [none]] (facts1 42) (SX.runPol SX.lk SX.U SX.X SX.awS mcF mlF 100000 40 7 (SX.startF [.one (some .i64), .one (some .i64), .sl 42 [none]] (facts1 42)).1 (SX.startF [.one (some .i64), .one (some .i64), .sl 42 [none]] (facts1 42)).2) = true := by kernel_rfl
set_option maxRecDepth 1000000 in
theorem c1_49 : SX.lawF [.one (some .i64), .one (some .i64), .sl 49 [none]] (facts1 49) (SX.runPol SX.lk SX.U SX.X SX.awS mcF mlF 100000 40 7 (SX.startF [.one (some .i64), .one (some .i64), .sl 49 [none]] (facts1 49)).1 (SX.startF [.one (some .i64), .one (some .i64), .sl 49 [none]] (facts1 49)).2) = true := by kernel_rfl
set_option maxRecDepth 1000000 in
theorem c2_1 : SX.lawF [.one (some .i64), .one (some .i64), .sl 1 [none]] (facts2 1) (SX.runPol SX.lk SX.U SX.X SX.awS mcF mlF 100000 40 7 (SX.startF [.one (some .i64), .one (some .i64), .sl 1 [none]] (facts2 1)).1 (SX.startF [.one (some .i64), .one (some .i64), .sl 1 [none]] (facts2 1)).2) = true := by kernel_rfl
set_option maxRecDepth 1000000 in
theorem c2_2 : SX.lawF [.one (some .i64), .one (some .i64), .sl 2 [none]] (facts2 2) (SX.runPol SX.lk SX.U SX.X SX.awS mcF mlF 100000 40 7 (SX.startF [.one (some .i64), .one (some .i64), .sl 2 [none]] (facts2 2)).1 (SX.startF [.one (some .i64), .one (some .i64), .sl 2 [none]] (facts2 2)).2) = true := by kernel_rfl
set_option maxRecDepth 1000000 in
theorem c2_4 : SX.lawF [.one (some .i64), .one (some .i64), .sl 4 [none]] (facts2 4) (SX.runPol SX.lk SX.U SX.X SX.awS mcF mlF 100000 40 7 (SX.startF [.one (some .i64), .one (some .i64), .sl 4 [none]] (facts2 4)).1 (SX.startF [.one (some .i64), .one (some .i64), .sl 4 [none]] (facts2 4)).2) = true := by kernel_rfl
set_option maxRecDepth 1000000 in
theorem c2_5 : SX.lawF [.one (some .i64), .one (some .i64), .sl 5 [none]] (facts2 5) (SX.runPol SX.lk SX.U SX.X SX.awS mcF mlF 100000 40 7 (SX.startF [.one (some .i64), .one (some .i64), .sl 5 [none]] (facts2 5)).1 (SX.startF [.one (some .i64), .one (some .i64), .sl 5 [none]] (facts2 5)).2) = true := by kernel_rfl
set_option maxRecDepth 1000000 in
theorem c2_17 : SX.lawF [.one (some .i64), .one (some .i64), .sl 17 [none]] (facts2 17) (SX.runPol SX.lk SX.U SX.X SX.awS mcF mlF 100000 40 7 (SX.startF [.one (some .i64), .one (some .i64), .sl 17 [none]] (facts2 17)).1 (SX.startF [.one (some .i64), .one (some .i64), .sl 17 [none]] (facts2 17)).2) = true := by kernel_rfl
set_option maxRecDepth 1000000 in
theorem c2_27 : SX.lawF [.one (some .i64), .one (some .i64), .sl 27 [none]] (facts2 27) (SX.runPol SX.lk SX.U SX.X SX.awS mcF mlF 100000 40 7 (SX.startF [.one (some .i64), .one (some .i64), .sl 27 [none]] (facts2 27)).1 (SX.startF [.one (some .i64), .one (some .i64), .sl 27 [none]] (facts2 27)).2) = true := by kernel_rfl
set_option maxRecDepth 1000000 in
theorem c2_29 : SX.lawF [.one (some .i64), .one (some .i64), .sl 29 [none]] (facts2 29) (SX.runPol SX.lk SX.U SX.X SX.awS mcF mlF 100000 40 7 (SX.startF [.one (some .i64), .one (some .i64), .sl 29 [none]] (facts2 29)).1 (SX.startF [.one (some .i64), .one (some .i64), .sl 29 [none]] (facts2 29)).2) = true := by kernel_rfl
set_option maxRecDepth 1000000 in
theorem c2_35 : SX.lawF [.one (some .i64), .one (some .i64), .sl 35 [none]] (facts2 35) (SX.runPol SX.lk SX.U SX.X SX.awS mcF mlF 100000 40 7 (SX.startF [.one (some .i64), .one (some .i64), .sl 35 [none]] (facts2 35)).1 (SX.startF [.one (some .i64), .one (some .i64), .sl 35 [none]] (facts2 35)).2) = true := by kernel_rfl
set_option maxRecDepth 1000000 in
theorem c2_46 : SX.lawF [.one (some .i64), .one (some .i64), .sl 46 [none]] (facts2 46) (SX.runPol SX.lk SX.U SX.X SX.awS mcF mlF 100000 40 7 (SX.startF [.one (some .i64), .one (some .i64), .sl 46 [none]] (facts2 46)).1 (SX.startF [.one (some .i64), .one (some .i64), .sl 46 [none]] (facts2 46)).2) = true := by kernel_rfl
set_option maxRecDepth 1000000 in
theorem c3_10 : SX.lawF [.one (some .i64), .one (some .i64), .sl 10 [none]] (facts3 10) (SX.runPol SX.lk SX.U SX.X SX.awS mcF mlF 100000 40 7 (SX.startF [.one (some .i64), .one (some .i64), .sl 10 [none]] (facts3 10)).1 (SX.startF [.one (some .i64), .one (some .i64), .sl 10 [none]] (facts3 10)).2) = true := by kernel_rfl
set_option maxRecDepth 1000000 in
theorem c3_24 : SX.lawF [.one (some .i64), .one (some .i64), .sl 24 [none]] (facts3 24) (SX.runPol SX.lk SX.U SX.X SX.awS mcF mlF 100000 40 7 (SX.startF [.one (some .i64), .one (some .i64), .sl 24 [none]] (facts3 24)).1 (SX.startF [.one (some .i64), .one (some .i64), .sl 24 [none]] (facts3 24)).2) = true := by kernel_rfl
set_option maxRecDepth 1000000 in
theorem c3_25 : SX.lawF [.one (some .i64), .one (some .i64), .sl 25 [none]] (facts3 25) (SX.runPol SX.lk SX.U SX.X SX.awS mcF mlF 100000 40 7 (SX.startF [.one (some .i64), .one (some .i64), .sl 25 [none]] (facts3 25)).1 (SX.startF [.one (some .i64), .one (some .i64), .sl 25 [none]] (facts3 25)).2) = true := by kernel_rfl
set_option maxRecDepth 1000000 in
theorem c3_28 : SX.lawF [.one (some .i64), .one (some .i64), .sl 28 [none]] (facts3 28) (SX.runPol SX.lk SX.U SX.X SX.awS mcF mlF 100000 40 7 (SX.startF [.one (some .i64), .one (some .i64), .sl 28 [none]] (facts3 28)).1 (SX.startF [.one (some .i64), .one (some .i64), .sl 28 [none]] (facts3 28)).2) = true := by kernel_rfl
set_option maxRecDepth 1000000 in
theorem c3_38 : SX.lawF [.one (some .i64), .one (some .i64), .sl 38 [none]] (facts3 38) (SX.runPol SX.lk SX.U SX.X SX.awS mcF mlF 100000 40 7 (SX.startF [.one (some .i64), .one (some .i64), .sl 38 [none]] (facts3 38)).1 (SX.startF [.one (some .i64), .one (some .i64), .sl 38 [none]] (facts3 38)).2) = true := by kernel_rfl
set_option maxRecDepth 1000000 in
theorem c3_40 : SX.lawF [.one (some .i64), .one (some .i64), .sl 40 [none]] (facts3 40) (SX.runPol SX.lk SX.U SX.X SX.awS mcF mlF 100000 40 7 (SX.startF [.one (some .i64), .one (some .i64), .sl 40 [none]] (facts3 40)).1 (SX.startF [.one (some .i64), .one (some .i64), .sl 40 [none]] (facts3 40)).2) = true := by kernel_rfl
set_option maxRecDepth 1000000 in
theorem c3_43 : SX.lawF [.one (some .i64), .one (some .i64), .sl 43 [none]] (facts3 43) (SX.runPol SX.lk SX.U SX.X SX.awS mcF mlF 100000 40 7 (SX.startF [.one (some .i64), .one (some .i64), .sl 43 [none]] (facts3 43)).1 (SX.startF [.one (some .i64), .one (some .i64), .sl 43 [none]] (facts3 43)).2) = true := by kernel_rfl
set_option maxRecDepth 1000000 in
theorem c3_50 : SX.lawF [.one (some .i64), .one (some .i64), .sl 50 [none]] (facts3 50) (SX.runPol SX.lk SX.U SX.X SX.awS mcF mlF 100000 40 7 (SX.startF [.one (some .i64), .one (some .i64), .sl 50 [none]] (facts3 50)).1 (SX.startF [.one (some .i64), .one (some .i64), .sl 50 [none]] (facts3 50)).2) = true := by kernel_rfl
set_option maxRecDepth 1000000 in
theorem c4_4 : SX.lawF [.one (some .i64), .one (some .i64), .sl 4 [none]] (facts4 4) (SX.runPol SX.lk SX.U SX.X SX.awS mcF mlF 100000 40 7 (SX.startF [.one (some .i64), .one (some .i64), .sl 4 [none]] (facts4 4)).1 (SX.startF [.one (some .i64), .one (some .i64), .sl 4 [none]] (facts4 4)).2) = true := by kernel_rfl
set_option maxRecDepth 1000000 in
theorem c4_9 : SX.lawF [.one (some .i64), .one (some .i64), .sl 9 [none]] (facts4 9) (SX.runPol SX.lk SX.U SX.X SX.awS mcF mlF 100000 40 7 (SX.startF [.one (some .i64), .one (some .i64), .sl 9 [none]] (facts4 9)).1 (SX.startF [.one (some .i64), .one (some .i64), .sl 9 [none]] (facts4 9)).2) = true := by kernel_rfl
set_option maxRecDepth 1000000 in
theorem c4_10 : SX.lawF [.one (some .i64), .one (some .i64), .sl 10 [none]] (facts4 10) (SX.runPol SX.lk SX.U SX.X SX.awS mcF mlF 100000 40 7 (SX.startF [.one (some .i64), .one (some .i64), .sl 10 [none]] (facts4 10)).1 (SX.startF [.one (some .i64), .one (some .i64), .sl 10 [none]] (facts4 10)).2) = true := by kernel_rfl
set_option maxRecDepth 1000000 in
theorem c4_15 : SX.lawF [.one (some .i64), .one (some .i64), .sl 15 [none]] (facts4 15) (SX.runPol SX.lk SX.U SX.X SX.awS mcF mlF 100000 40 7 (SX.startF [.one (some .i64), .one (some .i64), .sl 15 [none]] (facts4 15)).1 (SX.startF [.one (some .i64), .one (some .i64), .sl 15 [none]] (facts4 15)).2) = true := by kernel_rfl
set_option maxRecDepth 1000000 in
theorem c4_17 : SX.lawF [.one (some .i64), .one (some .i64), .sl 17 [none]] (facts4 17) (SX.runPol SX.lk SX.U SX.X SX.awS mcF mlF 100000 40 7 (SX.startF [.one (some .i64), .one (some .i64), .sl 17 [none]] (facts4 17)).1 (SX.startF [.one (some .i64), .one (some .i64), .sl 17 [none]] (facts4 17)).2) = true := by kernel_rfl
set_option maxRecDepth 1000000 in
theorem c4_24 : SX.lawF [.one (some .i64), .one (some .i64), .sl 24 [none]] (facts4 24) (SX.runPol SX.lk SX.U SX.X SX.awS mcF mlF 100000 40 7 (SX.startF [.one (some .i64), .one (some .i64), .sl 24 [none]] (facts4 24)).1 (SX.startF [.one (some .i64), .one (some .i64), .sl 24 [none]] (facts4 24)).2) = true := by kernel_rfl
set_option maxRecDepth 1000000 in
theorem c4_31 : SX.lawF [.one (some .i64), .one (some .i64), .sl 31 [none]] (facts4 31) (SX.runPol SX.lk SX.U SX.X SX.awS mcF mlF 100000 40 7 (SX.startF [.one (some .i64), .one (some .i64), .sl 31 [none]] (facts4 31)).1 (SX.startF [.one (some .i64), .one (some .i64), .sl 31 [none]] (facts4 31)).2) = true := by kernel_rfl
set_option maxRecDepth 1000000 in
theorem c4_34 : SX.lawF [.one (some .i64), .one (some .i64), .sl 34 [none]] (facts4 34) (SX.runPol SX.lk SX.U SX.X SX.awS mcF mlF 100000 40 7 (SX.startF [.one (some .i64), .one (some .i64), .sl 34 [none]] (facts4 34)).1 (SX.startF [.one (some .i64), .one (some .i64), .sl 34 [none]] (facts4 34)).2) = true := by kernel_rfl
set_option maxRecDepth 1000000 in
theorem c4_40 : SX.lawF [.one (some .i64), .one (some .i64), .sl 40 [none]] (facts4 40) (SX.runPol SX.lk SX.U SX.X SX.awS mcF mlF 100000 40 7 (SX.startF [.one (some .i64), .one (some .i64), .sl 40 [none]] (facts4 40)).1 (SX.startF [.one (some .i64), .one (some .i64), .sl 40 [none]] (facts4 40)).2) = true := by kernel_rfl
set_option maxRecDepth 1000000 in
theorem c4_49 : SX.lawF [.one (some .i64), .one (some .i64), .sl 49 [none]] (facts4 49) (SX.runPol SX.lk SX.U SX.X SX.awS mcF mlF 100000 40 7 (SX.startF [.one (some .i64), .one (some .i64), .sl 49 [none]] (facts4 49)).1 (SX.startF [.one (some .i64), .one (some .i64), .sl 49 [none]] (facts4 49)).2) = true := by kernel_rfl
end Go.Proofs.Ytchdlanichhkcaa.fxFlags
