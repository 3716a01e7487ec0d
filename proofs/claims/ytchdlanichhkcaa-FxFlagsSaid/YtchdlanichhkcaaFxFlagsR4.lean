/- astrolabelaw2.FxFlags, length by length. -/
import Derived.Test.YtchdlanichhkcaaFxFlagsD
namespace Go.Proofs.Ytchdlanichhkcaa.fxFlags
open Go
set_option maxRecDepth 1000000 in
theorem c0_5 : SX.lawF [.one (some .i64), .one (some .i64), .sl 5 [none]] (facts0 5) (SX.runPol SX.lk SX.U SX.X SX.awS mcF mlF 100000 40 7 (SX.startF [.one (some .i64), .one (some .i64), .sl 5 [none]] (facts0 5)).1 (SX.startF [.one (some .i64), .one (some .i64), .sl 5 [none]] (facts0 5)).2) = true := by kernel_rfl
set_option maxRecDepth 1000000 in
theorem c0_7 : SX.lawF [.one (some .i64), .one (some .i64), .sl 7 [none]] (facts0 7) (SX.runPol SX.lk SX.U SX.X SX.awS mcF mlF 100000 40 7 (SX.startF [.one (some .i64), .one (some .i64), .sl 7 [none]] (facts0 7)).1 (SX.startF [.one (some .i64), .one (some .i64), .sl 7 [none]] (facts0 7)).2) = true := by kernel_rfl
set_option maxRecDepth 1000000 in
theorem c0_9 : SX.lawF [.one (some .i64), .one (some .i64), .sl 9 [none]] (facts0 9) (SX.runPol SX.lk SX.U SX.X SX.awS mcF mlF 100000 40 7 (SX.startF [.one (some .i64), .one (some .i64), .sl 9 [none]] (facts0 9)).1 (SX.startF [.one (some .i64), .one (some .i64), .sl 9 [none]] (facts0 9)).2) = true := by kernel_rfl
set_option maxRecDepth 1000000 in
theorem c0_28 : SX.lawF [.one (some .i64), .one (some .i64), .sl 28 [none]] (facts0 28) (SX.runPol SX.lk SX.U SX.X SX.awS mcF mlF 100000 40 7 (SX.startF [.one (some .i64), .one (some .i64), .sl 28 [none]] (facts0 28)).1 (SX.startF [.one (some .i64), .one (some .i64), .sl 28 [none]] (facts0 28)).2) = true := by kernel_rfl
set_option maxRecDepth 1000000 in
theorem c0_30 : SX.lawF [.one (some .i64), .one (some .i64), .sl 30 [none]] (facts0 30) (SX.runPol SX.lk SX.U SX.X SX.awS mcF mlF 100000 40 7 (SX.startF [.one (some .i64), .one (some .i64), .sl 30 [none]] (facts0 30)).1 (SX.startF [.one (some .i64), .one (some .i64), .sl 30 [none]] (facts0 30)).2) = true := by kernel_rfl
set_option maxRecDepth 1000000 in
theorem c0_38 : SX.lawF [.one (some .i64), .one (some .i64), .sl 38 [none]] (facts0 38) (SX.runPol SX.lk SX.U SX.X SX.awS mcF mlF 100000 40 7 (SX.startF [.one (some .i64), .one (some .i64), .sl 38 [none]] (facts0 38)).1 (SX.startF [.one (some .i64), .one (some .i64), .sl 38 [none]] (facts0 38)).2) = true := by kernel_rfl
set_option maxRecDepth 1000000 in
theorem c0_40 : SX.lawF [.one (some .i64), .one (some .i64), .sl 40 [none]] (facts0 40) (SX.runPol SX.lk SX.U SX.X SX.awS mcF mlF 100000 40 7 (SX.startF [.one (some .i64), .one (some .i64), .sl 40 [none]] (facts0 40)).1 (SX.startF [.one (some .i64), .one (some .i64), .sl 40 [none]] (facts0 40)).2) = true := by kernel_rfl
set_option maxRecDepth 1000000 in
theorem c0_48 : SX.lawF [.one (some .i64), .one (some .i64), .sl 48 [none]] (facts0 48) (SX.runPol SX.lk SX.U SX.X SX.awS mcF mlF 100000 40 7 (SX.startF [.one (some .i64), .one (some .i64), .sl 48 [none]] (facts0 48)).1 (SX.startF [.one (some .i64), .one (some .i64), .sl 48 [none]] (facts0 48)).2) = true := by kernel_rfl
set_option maxRecDepth 1000000 in
theorem c0_50 : SX.lawF [.one (some .i64), .one (some .i64), .sl 50 [none]] (facts0 50) (SX.runPol SX.lk SX.U SX.X SX.awS mcF mlF 100000 40 7 (SX.startF [.one (some .i64), .one (some .i64), .sl 50 [none]] (facts0 50)).1 (SX.startF [.one (some .i64), .one (some .i64), .sl 50 [none]] (facts0 50)).2) = true := by kernel_rfl
set_option maxRecDepth 1000000 in
theorem c1_3 : SX.lawF [.one (some .i64), .one (some .i64), .sl 3 [none]] (facts1 3) (SX.runPol SX.lk SX.U SX.X SX.awS mcF mlF 100000 40 7 (SX.startF [.one (some .i64), .one (some .i64), .sl 3 [none]] (facts1 3)).1 (SX.startF [.one (some .i64), .one (some .i64), .sl 3 [none]] (facts1 3)).2) = true := by kernel_rfl
set_option maxRecDepth 1000000 in
theorem c1_13 : SX.lawF [.one (some .i64), .one (some .i64), .sl 13 [none]] (facts1 13) (SX.runPol SX.lk SX.U SX.X SX.awS mcF mlF 100000 40 7 (SX.startF [.one (some .i64), .one (some .i64), .sl 13 [none]] (facts1 13)).1 (SX.startF [.one (some .i64), .one (some .i64), .sl 13 [none]] (facts1 13)).2) = true := by kernel_rfl
set_option maxRecDepth 1000000 in
theorem c1_14 : SX.lawF [.one (some .i64), .one (some .i64), .sl 14 [none]] (facts1 14) (SX.runPol SX.lk SX.U SX.X SX.awS mcF mlF 100000 40 7 (SX.startF [.one (some .i64), .one (some .i64), .sl 14 [none]] (facts1 14)).1 (SX.startF [.one (some .i64), .one (some .i64), .sl 14 [none]] (facts1 14)).2) = true := by kernel_rfl
set_option maxRecDepth 1000000 in
theorem c1_16 : SX.lawF [.one (some .i64), .one (some .i64), .sl 16 [none]] (facts1 16) (SX.runPol SX.lk SX.U SX.X SX.awS mcF mlF 100000 40 7 (SX.startF [.one (some .i64), .one (some .i64), .sl 16 [none]] (facts1 16)).1 (SX.startF [.one (some .i64), .one (some .i64), .sl 16 [none]] (facts1 16)).2) = true := by kernel_rfl
set_option maxRecDepth 1000000 in
theorem c1_20 : SX.lawF [.one (some .i64), .one (some .i64), .sl 20 [none]] (facts1 20) (SX.runPol SX.lk SX.U SX.X SX.awS mcF mlF 100000 40 7 (SX.startF [.one (some .i64), .one (some .i64), .sl 20 [none]] (facts1 20)).1 (SX.startF [.one (some .i64), .one (some .i64), .sl 20 [none]] (facts1 20)).2) = true := by kernel_rfl
set_option maxRecDepth 1000000 in
theorem c1_24 : SX.lawF [.one (some .i64), .one (some .i64), .sl 24 [none]] (facts1 24) (SX.runPol SX.lk SX.U SX.X SX.awS mcF mlF 100000 40 7 (SX.startF [.one (some .i64), .one (some .i64), .sl 24 [none]] (facts1 24)).1 (SX.startF [.one (some .i64), .one (some .i64), .sl 24 [none]] (facts1 24)).2) = true := by kernel_rfl
set_option maxRecDepth 1000000 in
theorem c1_44 : SX.lawF [.one (some .i64), .one (some .i64), .sl 44 [none]] (facts1 44) (SX.runPol SX.lk SX.U SX.X SX.awS mcF mlF 100000 40 7 (SX.startF [.one (some .i64), .one (some .i64), .sl 44 [none]] (facts1 44)).1 (SX.startF [.one (some .i64), .one (some .i64), .sl 44 [none]] (facts1 44)).2) = true := by kernel_rfl
set_option maxRecDepth 1000000 in
theorem c2_7 : SX.lawF [.one (some .i64), .one (some .i64), .sl 7 [none]] (facts2 7) (SX.runPol SX.lk SX.U SX.X SX.awS mcF mlF 100000 40 7 (SX.startF [.one (some .i64), .one (some .i64), .sl 7 [none]] (facts2 7)).1 (SX.startF [.one (some .i64), .one (some .i64), .sl 7 [none]] (facts2 7)).2) = true := by kernel_rfl
set_option maxRecDepth 1000000 in
theorem c2_11 : SX.lawF [.one (some .i64), .one (some .i64), .sl 11 [none]] (facts2 11) (SX.runPol SX.lk SX.U SX.X SX.awS mcF mlF 100000 40 7 (SX.startF [.one (some .i64), .one (some .i64), .sl 11 [none]] (facts2 11)).1 (SX.startF [.one (some .i64), .one (some .i64), .sl 11 [none]] (facts2 11)).2) = true := by kernel_rfl
set_option maxRecDepth 1000000 in
theorem c2_18 : SX.lawF [.one (some .i64), .one (some .i64), .sl 18 [none]] (facts2 18) (SX.runPol SX.lk SX.U SX.X SX.awS mcF mlF 100000 40 7 (SX.startF [.one (some .i64), .one (some .i64), .sl 18 [none]] (facts2 18)).1 (SX.startF [.one (some .i64), .one (some .i64), .sl 18 [none]] (facts2 18)).2) = true := by kernel_rfl
set_option maxRecDepth 1000000 in
theorem c2_22 : SX.lawF [.one (some .i64), .one (some .i64), .sl 22 [none]] (facts2 22) (SX.runPol SX.lk SX.U SX.X SX.awS mcF mlF 100000 40 7 (SX.startF [.one (some .i64), .one (some .i64), .sl 22 [none]] (facts2 22)).1 (SX.startF [.one (some .i64), .one (some .i64), .sl 22 [none]] (facts2 22)).2) = true := by kernel_rfl
set_option maxRecDepth 1000000 in
theorem c2_26 : SX.lawF [.one (some .i64), .one (some .i64), .sl 26 [none]] (facts2 26) (SX.runPol SX.lk SX.U SX.X SX.awS mcF mlF 100000 40 7 (SX.startF [.one (some .i64), .one (some .i64), .sl 26 [none]] (facts2 26)).1 (SX.startF [.one (some .i64), .one (some .i64), .sl 26 [none]] (facts2 26)).2) = true := by kernel_rfl
set_option maxRecDepth 1000000 in
theorem c2_34 : SX.lawF [.one (some .i64), .one (some .i64), .sl 34 [none]] (facts2 34) (SX.runPol SX.lk SX.U SX.X SX.awS mcF mlF 100000 40 7 (SX.startF [.one (some .i64), .one (some .i64), .sl 34 [none]] (facts2 34)).1 (SX.startF [.one (some .i64), .one (some .i64), .sl 34 [none]] (facts2 34)).2) = true := by kernel_rfl
set_option maxRecDepth 1000000 in
theorem c2_36 : SX.lawF [.one (some .i64), .one (some .i64), .sl 36 [none]] (facts2 36) (SX.runPol SX.lk SX.U SX.X SX.awS mcF mlF 100000 40 7 (SX.startF [.one (some .i64), .one (some .i64), .sl 36 [none]] (facts2 36)).1 (SX.startF [.one (some .i64), .one (some .i64), .sl 36 [none]] (facts2 36)).2) = true := by kernel_rfl
set_option maxRecDepth 1000000 in
theorem c2_41 : SX.lawF [.one (some .i64), .one (some .i64), .sl 41 [none]] (facts2 41) (SX.runPol SX.lk SX.U SX.X SX.awS mcF mlF 100000 40 7 (SX.startF [.one (some .i64), .one (some .i64), .sl 41 [none]] (facts2 41)).1 (SX.startF [.one (some .i64), .one (some .i64), .sl 41 [none]] (facts2 41)).2) = true := by kernel_rfl
set_option maxRecDepth 1000000 in
theorem c3_3 : SX.lawF [.one (some .i64), .one (some .i64), .sl 3 [none]] (facts3 3) (SX.runPol SX.lk SX.U SX.X SX.awS mcF mlF 100000 40 7 (SX.startF [.one (some .i64), .one (some .i64), .sl 3 [none]] (facts3 3)).1 (SX.startF [.one (some .i64), .one (some .i64), .sl 3 [none]] (facts3 3)).2) = true := by kernel_rfl
set_option maxRecDepth 1000000 in
theorem c3_17 : SX.lawF [.one (some .i64), .one (some .i64), .sl 17 [none]] (facts3 17) (SX.runPol SX.lk SX.U SX.X SX.awS mcF mlF 100000 40 7 (SX.startF [.one (some .i64), .one (some .i64), .sl 17 [none]] (facts3 17)).1 (SX.startF [.one (some .i64), .one (some .i64), .sl 17 [none]] (facts3 17)).2) = true := by kernel_rfl
set_option maxRecDepth 1000000 in
theorem c3_21 : SX.lawF [.one (some .i64), .one (some .i64), .sl 21 [none]] (facts3 21) (SX.runPol SX.lk SX.U SX.X SX.awS mcF mlF 100000 40 7 (SX.startF [.one (some .i64), .one (some .i64), .sl 21 [none]] (facts3 21)).1 (SX.startF [.one (some .i64), .one (some .i64), .sl 21 [none]] (facts3 21)).2) = true := by kernel_rfl
set_option maxRecDepth 1000000 in
theorem c3_31 : SX.lawF [.one (some .i64), .one (some .i64), .sl 31 [none]] (facts3 31) (SX.runPol SX.lk SX.U SX.X SX.awS mcF mlF 100000 40 7 (SX.startF [.one (some .i64), .one (some .i64), .sl 31 [none]] (facts3 31)).1 (SX.startF [.one (some .i64), .one (some .i64), .sl 31 [none]] (facts3 31)).2) = true := by kernel_rfl
set_option maxRecDepth 1000000 in
theorem c3_32 : SX.lawF [.one (some .i64), .one (some .i64), .sl 32 [none]] (facts3 32) (SX.runPol SX.lk SX.U SX.X SX.awS mcF mlF 100000 40 7 (SX.startF [.one (some .i64), .one (some .i64), .sl 32 [none]] (facts3 32)).1 (SX.startF [.one (some .i64), .one (some .i64), .sl 32 [none]] (facts3 32)).2) = true := by kernel_rfl
set_option maxRecDepth 1000000 in
theorem c3_35 : SX.lawF [.one (some .i64), .one (some .i64), .sl 35 [none]] (facts3 35) (SX.runPol SX.lk SX.U SX.X SX.awS mcF mlF 100000 40 7 (SX.startF [.one (some .i64), .one (some .i64), .sl 35 [none]] (facts3 35)).1 (SX.startF [.one (some .i64), .one (some .i64), .sl 35 [none]] (facts3 35)).2) = true := by kernel_rfl
set_option maxRecDepth 1000000 in
theorem c3_42 : SX.lawF [.one (some .i64), .one (some .i64), .sl 42 [none]] (facts3 42) (SX.runPol SX.lk SX.U SX.X SX.awS mcF mlF 100000 40 7 (SX.startF [.one (some .i64), .one (some .i64), .sl 42 [none]] (facts3 42)).1 (SX.startF [.one (some .i64), .one (some .i64), .sl 42 [none]] (facts3 42)).2) = true := by kernel_rfl
set_option maxRecDepth 1000000 in
theorem c3_45 : SX.lawF [.one (some .i64), .one (some .i64), .sl 45 [none]] (facts3 45) (SX.runPol SX.lk SX.U SX.X SX.awS mcF mlF 100000 40 7 (SX.startF [.one (some .i64), .one (some .i64), .sl 45 [none]] (facts3 45)).1 (SX.startF [.one (some .i64), .one (some .i64), .sl 45 [none]] (facts3 45)).2) = true := by kernel_rfl
set_option maxRecDepth 1000000 in
theorem c3_46 : SX.lawF [.one (some .i64), .one (some .i64), .sl 46 [none]] (facts3 46) (SX.runPol SX.lk SX.U SX.X SX.awS mcF mlF 100000 40 7 (SX.startF [.one (some .i64), .one (some .i64), .sl 46 [none]] (facts3 46)).1 (SX.startF [.one (some .i64), .one (some .i64), .sl 46 [none]] (facts3 46)).2) = true := by kernel_rfl
set_option maxRecDepth 1000000 in
theorem c4_5 : SX.lawF [.one (some .i64), .one (some .i64), .sl 5 [none]] (facts4 5) (SX.runPol SX.lk SX.U SX.X SX.awS mcF mlF 100000 40 7 (SX.startF [.one (some .i64), .one (some .i64), .sl 5 [none]] (facts4 5)).1 (SX.startF [.one (some .i64), .one (some .i64), .sl 5 [none]] (facts4 5)).2) = true := by kernel_rfl
set_option maxRecDepth 1000000 in
theorem c4_11 : SX.lawF [.one (some .i64), .one (some .i64), .sl 11 [none]] (facts4 11) (SX.runPol SX.lk SX.U SX.X SX.awS mcF mlF 100000 40 7 (SX.startF [.one (some .i64), .one (some .i64), .sl 11 [none]] (facts4 11)).1 (SX.startF [.one (some .i64), .one (some .i64), .sl 11 [none]] (facts4 11)).2) = true := by kernel_rfl
set_option maxRecDepth 1000000 in
theorem c4_18 : SX.lawF [.one (some .i64), .one (some .i64), .sl 18 [none]] (facts4 18) (SX.runPol SX.lk SX.U SX.X SX.awS mcF mlF 100000 40 7 (SX.startF [.one (some .i64), .one (some .i64), .sl 18 [none]] (facts4 18)).1 (SX.startF [.one (some .i64), .one (some .i64), .sl 18 [none]] (facts4 18)).2) = true := by kernel_rfl
set_option maxRecDepth 1000000 in
theorem c4_23 : SX.lawF [.one (some .i64), .one (some .i64), .sl 23 [none]] (facts4 23) (SX.runPol SX.lk SX.U SX.X SX.awS mcF mlF 100000 40 7 (SX.startF [.one (some .i64), .one (some .i64), .sl 23 [none]] (facts4 23)).1 (SX.startF [.one (some .i64), .one (some .i64), .sl 23 [none]] (facts4 23)).2) = true := by kernel_rfl
set_option maxRecDepth 1000000 in
theorem c4_28 : SX.lawF [.one (some .i64), .one (some .i64), .sl 28 [none]] (facts4 28) (SX.runPol SX.lk SX.U SX.X SX.awS mcF mlF 100000 40 7 (SX.startF [.one (some .i64), .one (some .i64), .sl 28 [none]] (facts4 28)).1 (SX.startF [.one (some .i64), .one (some .i64), .sl 28 [none]] (facts4 28)).2) = true := by kernel_rfl
set_option maxRecDepth 1000000 in
theorem c4_37 : SX.lawF [.one (some .i64), .one (some .i64), .sl 37 [none]] (facts4 37) (SX.runPol SX.lk SX.U SX.X SX.awS mcF mlF 100000 40 7 (SX.startF [.one (some .i64), .one (some .i64), .sl 37 [none]] (facts4 37)).1 (SX.startF [.one (some .i64), .one (some .i64), .sl 37 [none]] (facts4 37)).2) = true := by kernel_rfl
set_option maxRecDepth 1000000 in
theorem c4_43 : SX.lawF [.one (some .i64), .one (some .i64), .sl 43 [none]] (facts4 43) (SX.runPol SX.lk SX.U SX.X SX.awS mcF mlF 100000 40 7 (SX.startF [.one (some .i64), .one (some .i64), .sl 43 [none]] (facts4 43)).1 (SX.startF [.one (some .i64), .one (some .i64), .sl 43 [none]] (facts4 43)).2) = true := by kernel_rfl
set_option maxRecDepth 1000000 in
theorem c4_46 : SX.lawF [.one (some .i64), .one (some .i64), .sl 46 [none]] (facts4 46) (SX.runPol SX.lk SX.U SX.X SX.awS mcF mlF 100000 40 7 (SX.startF [.one (some .i64), .one (some .i64), .sl 46 [none]] (facts4 46)).1 (SX.startF [.one (some .i64), .one (some .i64), .sl 46 [none]] (facts4 46)).2) = true := by kernel_rfl
end Go.Proofs.Ytchdlanichhkcaa.fxFlags
