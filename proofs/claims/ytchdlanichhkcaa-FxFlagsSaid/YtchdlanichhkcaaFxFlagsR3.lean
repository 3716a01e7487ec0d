/- astrolabelaw2.FxFlags, length by length. -/
import Derived.Test.YtchdlanichhkcaaFxFlagsD
namespace Go.Proofs.Ytchdlanichhkcaa.fxFlags
open Go
set_option maxRecDepth 1000000 in
theorem c0_18 : SX.lawF [.one (some .i64), .one (some .i64), .sl 18 [none]] (facts0 18) (SX.runPol SX.lk SX.U SX.X SX.awS mcF mlF 100000 40 7 (SX.startF [.one (some .i64), .one (some .i64), .sl 18 [none]] (facts0 18)).1 (SX.startF [.one (some .i64), .one (some .i64), .sl 18 [none]] (facts0 18)).2) = true := by kernel_rfl
set_option maxRecDepth 1000000 in
theorem c0_20 : SX.lawF [.one (some .i64), .one (some .i64), .sl 20 [none]] (facts0 20) (SX.runPol SX.lk SX.U SX.X SX.awS mcF mlF 100000 40 7 (SX.startF [.one (some .i64), .one (some .i64), .sl 20 [none]] (facts0 20)).1 (SX.startF [.one (some .i64), .one (some .i64), .sl 20 [none]] (facts0 20)).2) = true := by kernel_rfl
set_option maxRecDepth 1000000 in
theorem c0_24 : SX.lawF [.one (some .i64), .one (some .i64), .sl 24 [none]] (facts0 24) (SX.runPol SX.lk SX.U SX.X SX.awS mcF mlF 100000 40 7 (SX.startF [.one (some .i64), .one (some .i64), .sl 24 [none]] (facts0 24)).1 (SX.startF [.one (some .i64), .one (some .i64), .sl 24 [none]] (facts0 24)).2) = true := by kernel_rfl
set_option maxRecDepth 1000000 in
theorem c0_29 : SX.lawF [.one (some .i64), .one (some .i64), .sl 29 [none]] (facts0 29) (SX.runPol SX.lk SX.U SX.X SX.awS mcF mlF 100000 40 7 (SX.startF [.one (some .i64), .one (some .i64), .sl 29 [none]] (facts0 29)).1 (SX.startF [.one (some .i64), .one (some .i64), .sl 29 [none]] (facts0 29)).2) = true := by kernel_rfl
set_option maxRecDepth 1000000 in
theorem c0_36 : SX.lawF [.one (some .i64), .one (some .i64), .sl 36 [none]] (facts0 36) (SX.runPol SX.lk SX.U SX.X SX.awS mcF mlF 100000 40 7 (SX.startF [.one (some .i64), .one (some .i64), .sl 36 [none]] (facts0 36)).1 (SX.startF [.one (some .i64), .one (some .i64), .sl 36 [none]] (facts0 36)).2) = true := by kernel_rfl
set_option maxRecDepth 1000000 in
theorem c0_39 : SX.lawF [.one (some .i64), .one (some .i64), .sl 39 [none]] (facts0 39) (SX.runPol SX.lk SX.U SX.X SX.awS mcF mlF 100000 40 7 (SX.startF [.one (some .i64), .one (some .i64), .sl 39 [none]] (facts0 39)).1 (SX.startF [.one (some .i64), .one (some .i64), .sl 39 [none]] (facts0 39)).2) = true := by kernel_rfl
set_option maxRecDepth 1000000 in
theorem c0_46 : SX.lawF [.one (some .i64), .one (some .i64), .sl 46 [none]] (facts0 46) (SX.runPol SX.lk SX.U SX.X SX.awS mcF mlF 100000 40 7 (SX.startF [.one (some .i64), .one (some .i64), .sl 46 [none]] (facts0 46)).1 (SX.startF [.one (some .i64), .one (some .i64), .sl 46 [none]] (facts0 46)).2) = true := by kernel_rfl
set_option maxRecDepth 1000000 in
theorem c1_8 : SX.lawF [.one (some .i64), .one (some .i64), .sl 8 [none]] (facts1 8) (SX.runPol SX.lk SX.U SX.X SX.awS mcF mlF 100000 40 7 (SX.startF [.one (some .i64), .one (some .i64), .sl 8 [none]] (facts1 8)).1 (SX.startF [.one (some .i64), .one (some .i64), .sl 8 [none]] (facts1 8)).2) = true := by kernel_rfl
set_option maxRecDepth 1000000 in
theorem c1_17 : SX.lawF [.one (some .i64), .one (some .i64), .sl 17 [none]] (facts1 17) (SX.runPol SX.lk SX.U SX.X SX.awS mcF mlF 100000 40 7 (SX.startF [.one (some .i64), .one (some .i64), .sl 17 [none]] (facts1 17)).1 (SX.startF [.one (some .i64), .one (some .i64), .sl 17 [none]] (facts1 17)).2) = true := by kernel_rfl
set_option maxRecDepth 1000000 in
theorem c1_22 : SX.lawF [.one (some .i64), .one (some .i64), .sl 22 [none]] (facts1 22) (SX.runPol SX.lk SX.U SX.X SX.awS mcF mlF 100000 40 7 (SX.startF [.one (some .i64), .one (some .i64), .sl 22 [none]] (facts1 22)).1 (SX.startF [.one (some .i64), .one (some .i64), .sl 22 [none]] (facts1 22)).2) = true := by kernel_rfl
set_option maxRecDepth 1000000 in
theorem c1_25 : SX.lawF [.one (some .i64), .one (some .i64), .sl 25 [none]] (facts1 25) (SX.runPol SX.lk SX.U SX.X SX.awS mcF mlF 100000 40 7 (SX.startF [.one (some .i64), .one (some .i64), .sl 25 [none]] (facts1 25)).1 (SX.startF [.one (some .i64), .one (some .i64), .sl 25 [none]] (facts1 25)).2) = true := by kernel_rfl
set_option maxRecDepth 1000000 in
theorem c1_26 : SX.lawF [.one (some .i64), .one (some .i64), .sl 26 [none]] (facts1 26) (SX.runPol SX.lk SX.U SX.X SX.awS mcF mlF 100000 40 7 (SX.startF [.one (some .i64), .one (some .i64), .sl 26 [none]] (facts1 26)).1 (SX.startF [.one (some .i64), .one (some .i64), .sl 26 [none]] (facts1 26)).2) = true := by kernel_rfl
set_option maxRecDepth 1000000 in
theorem c1_33 : SX.lawF [.one (some .i64), .one (some .i64), .sl 33 [none]] (facts1 33) (SX.runPol SX.lk SX.U SX.X SX.awS mcF mlF 100000 40 7 (SX.startF [.one (some .i64), .one (some .i64), .sl 33 [none]] (facts1 33)).1 (SX.startF [.one (some .i64), .one (some .i64), .sl 33 [none]] (facts1 33)).2) = true := by kernel_rfl
set_option maxRecDepth 1000000 in
theorem c1_40 : SX.lawF [.one (some .i64), .one (some .i64), .sl 40 [none]] (facts1 40) (SX.runPol SX.lk SX.U SX.X SX.awS mcF mlF 100000 40 7 (SX.startF [.one (some .i64), .one (some .i64), .sl 40 [none]] (facts1 40)).1 (SX.startF [.one (some .i64), .one (some .i64), .sl 40 [none]] (facts1 40)).2) = true := by kernel_rfl
set_option maxRecDepth 1000000 in
theorem c1_43 : SX.lawF [.one (some .i64), .one (some .i64), .sl 43 [none]] (facts1 43) (SX.runPol SX.lk SX.U SX.X SX.awS mcF mlF 100000 40 7 (SX.startF [.one (some .i64), .one (some .i64), .sl 43 [none]] (facts1 43)).1 (SX.startF [.one (some .i64), .one (some .i64), .sl 43 [none]] (facts1 43)).2) = true := by kernel_rfl
set_option maxRecDepth 1000000 in
theorem c1_50 : SX.lawF [.one (some .i64), .one (some .i64), .sl 50 [none]] (facts1 50) (SX.runPol SX.lk SX.U SX.X SX.awS mcF mlF 100000 40 7 (SX.startF [.one (some .i64), .one (some .i64), .sl 50 [none]] (facts1 50)).1 (SX.startF [.one (some .i64), .one (some .i64), .sl 50 [none]] (facts1 50)).2) = true := by kernel_rfl
set_option maxRecDepth 1000000 in
theorem c2_6 : SX.lawF [.one (some .i64), .one (some .i64), .sl 6 [none]] (facts2 6) (SX.runPol SX.lk SX.U SX.X SX.awS mcF mlF 100000 40 7 (SX.startF [.one (some .i64), .one (some .i64), .sl 6 [none]] (facts2 6)).1 (SX.startF [.one (some .i64), .one (some .i64), .sl 6 [none]] (facts2 6)).2) = true := by kernel_rfl
set_option maxRecDepth 1000000 in
theorem c2_10 : SX.lawF [.one (some .i64), .one (some .i64), .sl 10 [none]] (facts2 10) (SX.runPol SX.lk SX.U SX.X SX.awS mcF mlF 100000 40 7 (SX.startF [.one (some .i64), .one (some .i64), .sl 10 [none]] (facts2 10)).1 (SX.startF [.one (some .i64), .one (some .i64), .sl 10 [none]] (facts2 10)).2) = true := by kernel_rfl
set_option maxRecDepth 1000000 in
theorem c2_12 : SX.lawF [.one (some .i64), .one (some .i64), .sl 12 [none]] (facts2 12) (SX.runPol SX.lk SX.U SX.X SX.awS mcF mlF 100000 40 7 (SX.startF [.one (some .i64), .one (some .i64), .sl 12 [none]] (facts2 12)).1 (SX.startF [.one (some .i64), .one (some .i64), .sl 12 [none]] (facts2 12)).2) = true := by kernel_rfl
set_option maxRecDepth 1000000 in
theorem c2_15 : SX.lawF [.one (some .i64), .one (some .i64), .sl 15 [none]] (facts2 15) (SX.runPol SX.lk SX.U SX.X SX.awS mcF mlF 100000 40 7 (SX.startF [.one (some .i64), .one (some .i64), .sl 15 [none]] (facts2 15)).1 (SX.startF [.one (some .i64), .one (some .i64), .sl 15 [none]] (facts2 15)).2) = true := by kernel_rfl
set_option maxRecDepth 1000000 in
theorem c2_21 : SX.lawF [.one (some .i64), .one (some .i64), .sl 21 [none]] (facts2 21) (SX.runPol SX.lk SX.U SX.X SX.awS mcF mlF 100000 40 7 (SX.startF [.one (some .i64), .one (some .i64), .sl 21 [none]] (facts2 21)).1 (SX.startF [.one (some .i64), .one (some .i64), .sl 21 [none]] (facts2 21)).2) = true := by kernel_rfl
set_option maxRecDepth 1000000 in
theorem c2_30 : SX.lawF [.one (some .i64), .one (some .i64), .sl 30 [none]] (facts2 30) (SX.runPol SX.lk SX.U SX.X SX.awS mcF mlF 100000 40 7 (SX.startF [.one (some .i64), .one (some .i64), .sl 30 [none]] (facts2 30)).1 (SX.startF [.one (some .i64), .one (some .i64), .sl 30 [none]] (facts2 30)).2) = true := by kernel_rfl
set_option maxRecDepth 1000000 in
theorem c2_37 : SX.lawF [.one (some .i64), .one (some .i64), .sl 37 [none]] (facts2 37) (SX.runPol SX.lk SX.U SX.X SX.awS mcF mlF 100000 40 7 (SX.startF [.one (some .i64), .one (some .i64), .sl 37 [none]] (facts2 37)).1 (SX.startF [.one (some .i64), .one (some .i64), .sl 37 [none]] (facts2 37)).2) = true := by kernel_rfl
set_option maxRecDepth 1000000 in
theorem c2_44 : SX.lawF [.one (some .i64), .one (some .i64), .sl 44 [none]] (facts2 44) (SX.runPol SX.lk SX.U SX.X SX.awS mcF mlF 100000 40 7 (SX.startF [.one (some .i64), .one (some .i64), .sl 44 [none]] (facts2 44)).1 (SX.startF [.one (some .i64), .one (some .i64), .sl 44 [none]] (facts2 44)).2) = true := by kernel_rfl
set_option maxRecDepth 1000000 in
theorem c2_47 : SX.lawF [.one (some .i64), .one (some .i64), .sl 47 [none]] (facts2 47) (SX.runPol SX.lk SX.U SX.X SX.awS mcF mlF 100000 40 7 (SX.startF [.one (some .i64), .one (some .i64), .sl 47 [none]] (facts2 47)).1 (SX.startF [.one (some .i64), .one (some .i64), .sl 47 [none]] (facts2 47)).2) = true := by kernel_rfl
set_option maxRecDepth 1000000 in
theorem c3_1 : SX.lawF [.one (some .i64), .one (some .i64), .sl 1 [none]] (facts3 1) (SX.runPol SX.lk SX.U SX.X SX.awS mcF mlF 100000 40 7 (SX.startF [.one (some .i64), .one (some .i64), .sl 1 [none]] (facts3 1)).1 (SX.startF [.one (some .i64), .one (some .i64), .sl 1 [none]] (facts3 1)).2) = true := by kernel_rfl
set_option maxRecDepth 1000000 in
theorem c3_2 : SX.lawF [.one (some .i64), .one (some .i64), .sl 2 [none]] (facts3 2) (SX.runPol SX.lk SX.U SX.X SX.awS mcF mlF 100000 40 7 (SX.startF [.one (some .i64), .one (some .i64), .sl 2 [none]] (facts3 2)).1 (SX.startF [.one (some .i64), .one (some .i64), .sl 2 [none]] (facts3 2)).2) = true := by kernel_rfl
set_option maxRecDepth 1000000 in
theorem c3_4 : SX.lawF [.one (some .i64), .one (some .i64), .sl 4 [none]] (facts3 4) (SX.runPol SX.lk SX.U SX.X SX.awS mcF mlF 100000 40 7 (SX.startF [.one (some .i64), .one (some .i64), .sl 4 [none]] (facts3 4)).1 (SX.startF [.one (some .i64), .one (some .i64), .sl 4 [none]] (facts3 4)).2) = true := by kernel_rfl
set_option maxRecDepth 1000000 in
theorem c3_5 : SX.lawF [.one (some .i64), .one (some .i64), .sl 5 [none]] (facts3 5) (SX.runPol SX.lk SX.U SX.X SX.awS mcF mlF 100000 40 7 (SX.startF [.one (some .i64), .one (some .i64), .sl 5 [none]] (facts3 5)).1 (SX.startF [.one (some .i64), .one (some .i64), .sl 5 [none]] (facts3 5)).2) = true := by kernel_rfl
set_option maxRecDepth 1000000 in
theorem c3_9 : SX.lawF [.one (some .i64), .one (some .i64), .sl 9 [none]] (facts3 9) (SX.runPol SX.lk SX.U SX.X SX.awS mcF mlF 100000 40 7 (SX.startF [.one (some .i64), .one (some .i64), .sl 9 [none]] (facts3 9)).1 (SX.startF [.one (some .i64), .one (some .i64), .sl 9 [none]] (facts3 9)).2) = true := by kernel_rfl
set_option maxRecDepth 1000000 in
theorem c3_12 : SX.lawF [.one (some .i64), .one (some .i64), .sl 12 [none]] (facts3 12) (SX.runPol SX.lk SX.U SX.X SX.awS mcF mlF 100000 40 7 (SX.startF [.one (some .i64), .one (some .i64), .sl 12 [none]] (facts3 12)).1 (SX.startF [.one (some .i64), .one (some .i64), .sl 12 [none]] (facts3 12)).2) = true := by kernel_rfl
set_option maxRecDepth 1000000 in
theorem c3_27 : SX.lawF [.one (some .i64), .one (some .i64), .sl 27 [none]] (facts3 27) (SX.runPol SX.lk SX.U SX.X SX.awS mcF mlF 100000 40 7 (SX.startF [.one (some .i64), .one (some .i64), .sl 27 [none]] (facts3 27)).1 (SX.startF [.one (some .i64), .one (some .i64), .sl 27 [none]] (facts3 27)).2) = true := by kernel_rfl
set_option maxRecDepth 1000000 in
theorem c3_34 : SX.lawF [.one (some .i64), .one (some .i64), .sl 34 [none]] (facts3 34) (SX.runPol SX.lk SX.U SX.X SX.awS mcF mlF 100000 40 7 (SX.startF [.one (some .i64), .one (some .i64), .sl 34 [none]] (facts3 34)).1 (SX.startF [.one (some .i64), .one (some .i64), .sl 34 [none]] (facts3 34)).2) = true := by kernel_rfl
set_option maxRecDepth 1000000 in
theorem c3_41 : SX.lawF [.one (some .i64), .one (some .i64), .sl 41 [none]] (facts3 41) (SX.runPol SX.lk SX.U SX.X SX.awS mcF mlF 100000 40 7 (SX.startF [.one (some .i64), .one (some .i64), .sl 41 [none]] (facts3 41)).1 (SX.startF [.one (some .i64), .one (some .i64), .sl 41 [none]] (facts3 41)).2) = true := by kernel_rfl
set_option maxRecDepth 1000000 in
theorem c3_48 : SX.lawF [.one (some .i64), .one (some .i64), .sl 48 [none]] (facts3 48) (SX.runPol SX.lk SX.U SX.X SX.awS mcF mlF 100000 40 7 (SX.startF [.one (some .i64), .one (some .i64), .sl 48 [none]] (facts3 48)).1 (SX.startF [.one (some .i64), .one (some .i64), .sl 48 [none]] (facts3 48)).2) = true := by kernel_rfl
set_option maxRecDepth 1000000 in
theorem c4_7 : SX.lawF [.one (some .i64), .one (some .i64), .sl 7 [none]] (facts4 7) (SX.runPol SX.lk SX.U SX.X SX.awS mcF mlF 100000 40 7 (SX.startF [.one (some .i64), .one (some .i64), .sl 7 [none]] (facts4 7)).1 (SX.startF [.one (some .i64), .one (some .i64), .sl 7 [none]] (facts4 7)).2) = true := by kernel_rfl
set_option maxRecDepth 1000000 in
theorem c4_13 : SX.lawF [.one (some .i64), .one (some .i64), .sl 13 [none]] (facts4 13) (SX.runPol SX.lk SX.U SX.X SX.awS mcF mlF 100000 40 7 (SX.startF [.one (some .i64), .one (some .i64), .sl 13 [none]] (facts4 13)).1 (SX.startF [.one (some .i64), .one (some .i64), .sl 13 [none]] (facts4 13)).2) = true := by kernel_rfl
set_option maxRecDepth 1000000 in
theorem c4_26 : SX.lawF [.one (some .i64), .one (some .i64), .sl 26 [none]] (facts4 26) (SX.runPol SX.lk SX.U SX.X SX.awS mcF mlF 100000 40 7 (SX.startF [.one (some .i64), .one (some .i64), .sl 26 [none]] (facts4 26)).1 (SX.startF [.one (some .i64), .one (some .i64), .sl 26 [none]] (facts4 26)).2) = true := by kernel_rfl
set_option maxRecDepth 1000000 in
theorem c4_29 : SX.lawF [.one (some .i64), .one (some .i64), .sl 29 [none]] (facts4 29) (SX.runPol SX.lk SX.U SX.X SX.awS mcF mlF 100000 40 7 (SX.startF [.one (some .i64), .one (some .i64), .sl 29 [none]] (facts4 29)).1 (SX.startF [.one (some .i64), .one (some .i64), .sl 29 [none]] (facts4 29)).2) = true := by kernel_rfl
set_option maxRecDepth 1000000 in
theorem c4_36 : SX.lawF [.one (some .i64), .one (some .i64), .sl 36 [none]] (facts4 36) (SX.runPol SX.lk SX.U SX.X SX.awS mcF mlF 100000 40 7 (SX.startF [.one (some .i64), .one (some .i64), .sl 36 [none]] (facts4 36)).1 (SX.startF [.one (some .i64), .one (some .i64), .sl 36 [none]] (facts4 36)).2) = true := by kernel_rfl
set_option maxRecDepth 1000000 in
theorem c4_42 : SX.lawF [.one (some .i64), .one (some .i64), .sl 42 [none]] (facts4 42) (SX.runPol SX.lk SX.U SX.X SX.awS mcF mlF 100000 40 7 (SX.startF [.one (some .i64), .one (some .i64), .sl 42 [none]] (facts4 42)).1 (SX.startF [.one (some .i64), .one (some .i64), .sl 42 [none]] (facts4 42)).2) = true := by kernel_rfl
set_option maxRecDepth 1000000 in
theorem c4_47 : SX.lawF [.one (some .i64), .one (some .i64), .sl 47 [none]] (facts4 47) (SX.runPol SX.lk SX.U SX.X SX.awS mcF mlF 100000 40 7 (SX.startF [.one (some .i64), .one (some .i64), .sl 47 [none]] (facts4 47)).1 (SX.startF [.one (some .i64), .one (some .i64), .sl 47 [none]] (facts4 47)).2) = true := by kernel_rfl
end Go.Proofs.Ytchdlanichhkcaa.fxFlags
