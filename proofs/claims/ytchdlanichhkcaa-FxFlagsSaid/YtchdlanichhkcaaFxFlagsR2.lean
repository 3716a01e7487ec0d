/- astrolabelaw2.FxFlags, length by length. -/
import Derived.Test.YtchdlanichhkcaaFxFlagsD
namespace Go.Proofs.Ytchdlanichhkcaa.fxFlags
open Go
set_option maxRecDepth 1000000 in
theorem c0_1 : SX.lawF [.one (some .i64), .one (some .i64), .sl 1 [none]] (facts0 1) (SX.runPol SX.lk SX.U SX.X SX.awS mcF mlF 100000 40 7 (SX.startF [.one (some .i64), .one (some .i64), .sl 1 [none]] (facts0 1)).1 (SX.startF [.one (some .i64), .one (some .i64), .sl 1 [none]] (facts0 1)).2) = true := by kernel_rfl
set_option maxRecDepth 1000000 in
theorem c0_2 : SX.lawF [.one (some .i64), .one (some .i64), .sl 2 [none]] (facts0 2) (SX.runPol SX.lk SX.U SX.X SX.awS mcF mlF 100000 40 7 (SX.startF [.one (some .i64), .one (some .i64), .sl 2 [none]] (facts0 2)).1 (SX.startF [.one (some .i64), .one (some .i64), .sl 2 [none]] (facts0 2)).2) = true := by kernel_rfl
set_option maxRecDepth 1000000 in
theorem c0_4 : SX.lawF [.one (some .i64), .one (some .i64), .sl 4 [none]] (facts0 4) (SX.runPol SX.lk SX.U SX.X SX.awS mcF mlF 100000 40 7 (SX.startF [.one (some .i64), .one (some .i64), .sl 4 [none]] (facts0 4)).1 (SX.startF [.one (some .i64), .one (some .i64), .sl 4 [none]] (facts0 4)).2) = true := by kernel_rfl
set_option maxRecDepth 1000000 in
theorem c0_10 : SX.lawF [.one (some .i64), .one (some .i64), .sl 10 [none]] (facts0 10) (SX.runPol SX.lk SX.U SX.X SX.awS mcF mlF 100000 40 7 (SX.startF [.one (some .i64), .one (some .i64), .sl 10 [none]] (facts0 10)).1 (SX.startF [.one (some .i64), .one (some .i64), .sl 10 [none]] (facts0 10)).2) = true := by kernel_rfl
set_option maxRecDepth 1000000 in
theorem c0_12 : SX.lawF [.one (some .i64), .one (some .i64), .sl 12 [none]] (facts0 12) (SX.runPol SX.lk SX.U SX.X SX.awS mcF mlF 100000 40 7 (SX.startF [.one (some .i64), .one (some .i64), .sl 12 [none]] (facts0 12)).1 (SX.startF [.one (some .i64), .one (some .i64), .sl 12 [none]] (facts0 12)).2) = true := by kernel_rfl
set_option maxRecDepth 1000000 in
theorem c0_19 : SX.lawF [.one (some .i64), .one (some .i64), .sl 19 [none]] (facts0 19) (SX.runPol SX.lk SX.U SX.X SX.awS mcF mlF 100000 40 7 (SX.startF [.one (some .i64), .one (some .i64), .sl 19 [none]] (facts0 19)).1 (SX.startF [.one (some .i64), .one (some .i64), .sl 19 [none]] (facts0 19)).2) = true := by kernel_rfl
set_option maxRecDepth 1000000 in
theorem c0_23 : SX.lawF [.one (some .i64), .one (some .i64), .sl 23 [none]] (facts0 23) (SX.runPol SX.lk SX.U SX.X SX.awS mcF mlF 100000 40 7 (SX.startF [.one (some .i64), .one (some .i64), .sl 23 [none]] (facts0 23)).1 (SX.startF [.one (some .i64), .one (some .i64), .sl 23 [none]] (facts0 23)).2) = true := by kernel_rfl
set_option maxRecDepth 1000000 in
theorem c0_26 : SX.lawF [.one (some .i64), .one (some .i64), .sl 26 [none]] (facts0 26) (SX.runPol SX.lk SX.U SX.X SX.awS mcF mlF 100000 40 7 (SX.startF [.one (some .i64), .one (some .i64), .sl 26 [none]] (facts0 26)).1 (SX.startF [.one (some .i64), .one (some .i64), .sl 26 [none]] (facts0 26)).2) = true := by kernel_rfl
set_option maxRecDepth 1000000 in
theorem c0_32 : SX.lawF [.one (some .i64), .one (some .i64), .sl 32 [none]] (facts0 32) (SX.runPol SX.lk SX.U SX.X SX.awS mcF mlF 100000 40 7 (SX.startF [.one (some .i64), .one (some .i64), .sl 32 [none]] (facts0 32)).1 (SX.startF [.one (some .i64), .one (some .i64), .sl 32 [none]] (facts0 32)).2) = true := by kernel_rfl
set_option maxRecDepth 1000000 in
theorem c0_35 : SX.lawF [.one (some .i64), .one (some .i64), .sl 35 [none]] (facts0 35) (SX.runPol SX.lk SX.U SX.X SX.awS mcF mlF 100000 40 7 (SX.startF [.one (some .i64), .one (some .i64), .sl 35 [none]] (facts0 35)).1 (SX.startF [.one (some .i64), .one (some .i64), .sl 35 [none]] (facts0 35)).2) = true := by kernel_rfl
set_option maxRecDepth 1000000 in
theorem c0_42 : SX.lawF [.one (some .i64), .one (some .i64), .sl 42 [none]] (facts0 42) (SX.runPol SX.lk SX.U SX.X SX.awS mcF mlF 100000 40 7 (SX.startF [.one (some .i64), .one (some .i64), .sl 42 [none]] (facts0 42)).1 (SX.startF [.one (some .i64), .one (some .i64), .sl 42 [none]] (facts0 42)).2) = true := by kernel_rfl
set_option maxRecDepth 1000000 in
theorem c0_49 : SX.lawF [.one (some .i64), .one (some .i64), .sl 49 [none]] (facts0 49) (SX.runPol SX.lk SX.U SX.X SX.awS mcF mlF 100000 40 7 (SX.startF [.one (some .i64), .one (some .i64), .sl 49 [none]] (facts0 49)).1 (SX.startF [.one (some .i64), .one (some .i64), .sl 49 [none]] (facts0 49)).2) = true := by kernel_rfl
set_option maxRecDepth 1000000 in
theorem c1_5 : SX.lawF [.one (some .i64), .one (some .i64), .sl 5 [none]] (facts1 5) (SX.runPol SX.lk SX.U SX.X SX.awS mcF mlF 100000 40 7 (SX.startF [.one (some .i64), .one (some .i64), .sl 5 [none]] (facts1 5)).1 (SX.startF [.one (some .i64), .one (some .i64), .sl 5 [none]] (facts1 5)).2) = true := by kernel_rfl
set_option maxRecDepth 1000000 in
theorem c1_7 : SX.lawF [.one (some .i64), .one (some .i64), .sl 7 [none]] (facts1 7) (SX.runPol SX.lk SX.U SX.X SX.awS mcF mlF 100000 40 7 (SX.startF [.one (some .i64), .one (some .i64), .sl 7 [none]] (facts1 7)).1 (SX.startF [.one (some .i64), .one (some .i64), .sl 7 [none]] (facts1 7)).2) = true := by kernel_rfl
set_option maxRecDepth 1000000 in
theorem c1_9 : SX.lawF [.one (some .i64), .one (some .i64), .sl 9 [none]] (facts1 9) (SX.runPol SX.lk SX.U SX.X SX.awS mcF mlF 100000 40 7 (SX.startF [.one (some .i64), .one (some .i64), .sl 9 [none]] (facts1 9)).1 (SX.startF [.one (some .i64), .one (some .i64), .sl 9 [none]] (facts1 9)).2) = true := by kernel_rfl
set_option maxRecDepth 1000000 in
theorem c1_28 : SX.lawF [.one (some .i64), .one (some .i64), .sl 28 [none]] (facts1 28) (SX.runPol SX.lk SX.U SX.X SX.awS mcF mlF 100000 40 7 (SX.startF [.one (some .i64), .one (some .i64), .sl 28 [none]] (facts1 28)).1 (SX.startF [.one (some .i64), .one (some .i64), .sl 28 [none]] (facts1 28)).2) = true := by kernel_rfl
set_option maxRecDepth 1000000 in
theorem c1_30 : SX.lawF [.one (some .i64), .one (some .i64), .sl 30 [none]] (facts1 30) (SX.runPol SX.lk SX.U SX.X SX.awS mcF mlF 100000 40 7 (SX.startF [.one (some .i64), .one (some .i64), .sl 30 [none]] (facts1 30)).1 (SX.startF [.one (some .i64), .one (some .i64), .sl 30 [none]] (facts1 30)).2) = true := by kernel_rfl
set_option maxRecDepth 1000000 in
theorem c1_36 : SX.lawF [.one (some .i64), .one (some .i64), .sl 36 [none]] (facts1 36) (SX.runPol SX.lk SX.U SX.X SX.awS mcF mlF 100000 40 7 (SX.startF [.one (some .i64), .one (some .i64), .sl 36 [none]] (facts1 36)).1 (SX.startF [.one (some .i64), .one (some .i64), .sl 36 [none]] (facts1 36)).2) = true := by kernel_rfl
set_option maxRecDepth 1000000 in
theorem c1_39 : SX.lawF [.one (some .i64), .one (some .i64), .sl 39 [none]] (facts1 39) (SX.runPol SX.lk SX.U SX.X SX.awS mcF mlF 100000 40 7 (SX.startF [.one (some .i64), .one (some .i64), .sl 39 [none]] (facts1 39)).1 (SX.startF [.one (some .i64), .one (some .i64), .sl 39 [none]] (facts1 39)).2) = true := by kernel_rfl
set_option maxRecDepth 1000000 in
theorem c1_46 : SX.lawF [.one (some .i64), .one (some .i64), .sl 46 [none]] (facts1 46) (SX.runPol SX.lk SX.U SX.X SX.awS mcF mlF 100000 40 7 (SX.startF [.one (some .i64), .one (some .i64), .sl 46 [none]] (facts1 46)).1 (SX.startF [.one (some .i64), .one (some .i64), .sl 46 [none]] (facts1 46)).2) = true := by kernel_rfl
set_option maxRecDepth 1000000 in
theorem c2_13 : SX.lawF [.one (some .i64), .one (some .i64), .sl 13 [none]] (facts2 13) (SX.runPol SX.lk SX.U SX.X SX.awS mcF mlF 100000 40 7 (SX.startF [.one (some .i64), .one (some .i64), .sl 13 [none]] (facts2 13)).1 (SX.startF [.one (some .i64), .one (some .i64), .sl 13 [none]] (facts2 13)).2) = true := by kernel_rfl
set_option maxRecDepth 1000000 in
theorem c2_14 : SX.lawF [.one (some .i64), .one (some .i64), .sl 14 [none]] (facts2 14) (SX.runPol SX.lk SX.U SX.X SX.awS mcF mlF 100000 40 7 (SX.startF [.one (some .i64), .one (some .i64), .sl 14 [none]] (facts2 14)).1 (SX.startF [.one (some .i64), .one (some .i64), .sl 14 [none]] (facts2 14)).2) = true := by kernel_rfl
set_option maxRecDepth 1000000 in
theorem c2_16 : SX.lawF [.one (some .i64), .one (some .i64), .sl 16 [none]] (facts2 16) (SX.runPol SX.lk SX.U SX.X SX.awS mcF mlF 100000 40 7 (SX.startF [.one (some .i64), .one (some .i64), .sl 16 [none]] (facts2 16)).1 (SX.startF [.one (some .i64), .one (some .i64), .sl 16 [none]] (facts2 16)).2) = true := by kernel_rfl
set_option maxRecDepth 1000000 in
theorem c2_20 : SX.lawF [.one (some .i64), .one (some .i64), .sl 20 [none]] (facts2 20) (SX.runPol SX.lk SX.U SX.X SX.awS mcF mlF 100000 40 7 (SX.startF [.one (some .i64), .one (some .i64), .sl 20 [none]] (facts2 20)).1 (SX.startF [.one (some .i64), .one (some .i64), .sl 20 [none]] (facts2 20)).2) = true := by kernel_rfl
set_option maxRecDepth 1000000 in
theorem c2_23 : SX.lawF [.one (some .i64), .one (some .i64), .sl 23 [none]] (facts2 23) (SX.runPol SX.lk SX.U SX.X SX.awS mcF mlF 100000 40 7 (SX.startF [.one (some .i64), .one (some .i64), .sl 23 [none]] (facts2 23)).1 (SX.startF [.one (some .i64), .one (some .i64), .sl 23 [none]] (facts2 23)).2) = true := by kernel_rfl
set_option maxRecDepth 1000000 in
theorem c2_33 : SX.lawF [.one (some .i64), .one (some .i64), .sl 33 [none]] (facts2 33) (SX.runPol SX.lk SX.U SX.X SX.awS mcF mlF 100000 40 7 (SX.startF [.one (some .i64), .one (some .i64), .sl 33 [none]] (facts2 33)).1 (SX.startF [.one (some .i64), .one (some .i64), .sl 33 [none]] (facts2 33)).2) = true := by kernel_rfl
set_option maxRecDepth 1000000 in
theorem c2_40 : SX.lawF [.one (some .i64), .one (some .i64), .sl 40 [none]] (facts2 40) (SX.runPol SX.lk SX.U SX.X SX.awS mcF mlF 100000 40 7 (SX.startF [.one (some .i64), .one (some .i64), .sl 40 [none]] (facts2 40)).1 (SX.startF [.one (some .i64), .one (some .i64), .sl 40 [none]] (facts2 40)).2) = true := by kernel_rfl
set_option maxRecDepth 1000000 in
theorem c2_43 : SX.lawF [.one (some .i64), .one (some .i64), .sl 43 [none]] (facts2 43) (SX.runPol SX.lk SX.U SX.X SX.awS mcF mlF 100000 40 7 (SX.startF [.one (some .i64), .one (some .i64), .sl 43 [none]] (facts2 43)).1 (SX.startF [.one (some .i64), .one (some .i64), .sl 43 [none]] (facts2 43)).2) = true := by kernel_rfl
set_option maxRecDepth 1000000 in
theorem c2_50 : SX.lawF [.one (some .i64), .one (some .i64), .sl 50 [none]] (facts2 50) (SX.runPol SX.lk SX.U SX.X SX.awS mcF mlF 100000 40 7 (SX.startF [.one (some .i64), .one (some .i64), .sl 50 [none]] (facts2 50)).1 (SX.startF [.one (some .i64), .one (some .i64), .sl 50 [none]] (facts2 50)).2) = true := by kernel_rfl
set_option maxRecDepth 1000000 in
theorem c3_7 : SX.lawF [.one (some .i64), .one (some .i64), .sl 7 [none]] (facts3 7) (SX.runPol SX.lk SX.U SX.X SX.awS mcF mlF 100000 40 7 (SX.startF [.one (some .i64), .one (some .i64), .sl 7 [none]] (facts3 7)).1 (SX.startF [.one (some .i64), .one (some .i64), .sl 7 [none]] (facts3 7)).2) = true := by kernel_rfl
set_option maxRecDepth 1000000 in
theorem c3_16 : SX.lawF [.one (some .i64), .one (some .i64), .sl 16 [none]] (facts3 16) (SX.runPol SX.lk SX.U SX.X SX.awS mcF mlF 100000 40 7 (SX.startF [.one (some .i64), .one (some .i64), .sl 16 [none]] (facts3 16)).1 (SX.startF [.one (some .i64), .one (some .i64), .sl 16 [none]] (facts3 16)).2) = true := by kernel_rfl
set_option maxRecDepth 1000000 in
theorem c3_20 : SX.lawF [.one (some .i64), .one (some .i64), .sl 20 [none]] (facts3 20) (SX.runPol SX.lk SX.U SX.X SX.awS mcF mlF 100000 40 7 (SX.startF [.one (some .i64), .one (some .i64), .sl 20 [none]] (facts3 20)).1 (SX.startF [.one (some .i64), .one (some .i64), .sl 20 [none]] (facts3 20)).2) = true := by kernel_rfl
set_option maxRecDepth 1000000 in
theorem c3_26 : SX.lawF [.one (some .i64), .one (some .i64), .sl 26 [none]] (facts3 26) (SX.runPol SX.lk SX.U SX.X SX.awS mcF mlF 100000 40 7 (SX.startF [.one (some .i64), .one (some .i64), .sl 26 [none]] (facts3 26)).1 (SX.startF [.one (some .i64), .one (some .i64), .sl 26 [none]] (facts3 26)).2) = true := by kernel_rfl
set_option maxRecDepth 1000000 in
theorem c3_30 : SX.lawF [.one (some .i64), .one (some .i64), .sl 30 [none]] (facts3 30) (SX.runPol SX.lk SX.U SX.X SX.awS mcF mlF 100000 40 7 (SX.startF [.one (some .i64), .one (some .i64), .sl 30 [none]] (facts3 30)).1 (SX.startF [.one (some .i64), .one (some .i64), .sl 30 [none]] (facts3 30)).2) = true := by kernel_rfl
set_option maxRecDepth 1000000 in
theorem c3_37 : SX.lawF [.one (some .i64), .one (some .i64), .sl 37 [none]] (facts3 37) (SX.runPol SX.lk SX.U SX.X SX.awS mcF mlF 100000 40 7 (SX.startF [.one (some .i64), .one (some .i64), .sl 37 [none]] (facts3 37)).1 (SX.startF [.one (some .i64), .one (some .i64), .sl 37 [none]] (facts3 37)).2) = true := by kernel_rfl
set_option maxRecDepth 1000000 in
theorem c3_44 : SX.lawF [.one (some .i64), .one (some .i64), .sl 44 [none]] (facts3 44) (SX.runPol SX.lk SX.U SX.X SX.awS mcF mlF 100000 40 7 (SX.startF [.one (some .i64), .one (some .i64), .sl 44 [none]] (facts3 44)).1 (SX.startF [.one (some .i64), .one (some .i64), .sl 44 [none]] (facts3 44)).2) = true := by kernel_rfl
set_option maxRecDepth 1000000 in
theorem c3_47 : SX.lawF [.one (some .i64), .one (some .i64), .sl 47 [none]] (facts3 47) (SX.runPol SX.lk SX.U SX.X SX.awS mcF mlF 100000 40 7 (SX.startF [.one (some .i64), .one (some .i64), .sl 47 [none]] (facts3 47)).1 (SX.startF [.one (some .i64), .one (some .i64), .sl 47 [none]] (facts3 47)).2) = true := by kernel_rfl
set_option maxRecDepth 1000000 in
theorem c4_25 : SX.lawF [.one (some .i64), .one (some .i64), .sl 25 [none]] (facts4 25) (SX.runPol SX.lk SX.U SX.X SX.awS mcF mlF 100000 40 7 (SX.startF [.one (some .i64), .one (some .i64), .sl 25 [none]] (facts4 25)).1 (SX.startF [.one (some .i64), .one (some .i64), .sl 25 [none]] (facts4 25)).2) = true := by kernel_rfl
set_option maxRecDepth 1000000 in
theorem c4_30 : SX.lawF [.one (some .i64), .one (some .i64), .sl 30 [none]] (facts4 30) (SX.runPol SX.lk SX.U SX.X SX.awS mcF mlF 100000 40 7 (SX.startF [.one (some .i64), .one (some .i64), .sl 30 [none]] (facts4 30)).1 (SX.startF [.one (some .i64), .one (some .i64), .sl 30 [none]] (facts4 30)).2) = true := by kernel_rfl
set_option maxRecDepth 1000000 in
theorem c4_35 : SX.lawF [.one (some .i64), .one (some .i64), .sl 35 [none]] (facts4 35) (SX.runPol SX.lk SX.U SX.X SX.awS mcF mlF 100000 40 7 (SX.startF [.one (some .i64), .one (some .i64), .sl 35 [none]] (facts4 35)).1 (SX.startF [.one (some .i64), .one (some .i64), .sl 35 [none]] (facts4 35)).2) = true := by kernel_rfl
set_option maxRecDepth 1000000 in
theorem c4_41 : SX.lawF [.one (some .i64), .one (some .i64), .sl 41 [none]] (facts4 41) (SX.runPol SX.lk SX.U SX.X SX.awS mcF mlF 100000 40 7 (SX.startF [.one (some .i64), .one (some .i64), .sl 41 [none]] (facts4 41)).1 (SX.startF [.one (some .i64), .one (some .i64), .sl 41 [none]] (facts4 41)).2) = true := by kernel_rfl
set_option maxRecDepth 1000000 in
theorem c4_48 : SX.lawF [.one (some .i64), .one (some .i64), .sl 48 [none]] (facts4 48) (SX.runPol SX.lk SX.U SX.X SX.awS mcF mlF 100000 40 7 (SX.startF [.one (some .i64), .one (some .i64), .sl 48 [none]] (facts4 48)).1 (SX.startF [.one (some .i64), .one (some .i64), .sl 48 [none]] (facts4 48)).2) = true := by kernel_rfl
end Go.Proofs.Ytchdlanichhkcaa.fxFlags
