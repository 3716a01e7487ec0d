/- astrolabelaw2.FxFlags, length by length. -/
import Derived.Test.YtchdlanichhkcaaFxFlagsD
namespace Go.Proofs.Ytchdlanichhkcaa.fxFlags
open Go
set_option maxRecDepth 1000000 in
theorem c0_3 : SX.lawF [.one (some .i64), .one (some .i64), .sl 3 [none]] (facts0 3) (SX.runPol SX.lk SX.U SX.X SX.awS mcF mlF 100000 40 7 (SX.startF [.one (some .i64), .one (some .i64), .sl 3 [none]] (facts0 3)).1 (SX.startF [.one (some .i64), .one (some .i64), .sl 3 [none]] (facts0 3)).2) = true := by kernel_rfl
set_option maxRecDepth 1000000 in
theorem c0_6 : SX.lawF [.one (some .i64), .one (some .i64), .sl 6 [none]] (facts0 6) (SX.runPol SX.lk SX.U SX.X SX.awS mcF mlF 100000 40 7 (SX.startF [.one (some .i64), .one (some .i64), .sl 6 [none]] (facts0 6)).1 (SX.startF [.one (some .i64), .one (some .i64), .sl 6 [none]] (facts0 6)).2) = true := by kernel_rfl
set_option maxRecDepth 1000000 in
theorem c0_17 : SX.lawF [.one (some .i64), .one (some .i64), .sl 17 [none]] (facts0 17) (SX.runPol SX.lk SX.U SX.X SX.awS mcF mlF 100000 40 7 (SX.startF [.one (some .i64), .one (some .i64), .sl 17 [none]] (facts0 17)).1 (SX.startF [.one (some .i64), .one (some .i64), .sl 17 [none]] (facts0 17)).2) = true := by kernel_rfl
set_option maxRecDepth 1000000 in
theorem c0_21 : SX.lawF [.one (some .i64), .one (some .i64), .sl 21 [none]] (facts0 21) (SX.runPol SX.lk SX.U SX.X SX.awS mcF mlF 100000 40 7 (SX.startF [.one (some .i64), .one (some .i64), .sl 21 [none]] (facts0 21)).1 (SX.startF [.one (some .i64), .one (some .i64), .sl 21 [none]] (facts0 21)).2) = true := by kernel_rfl
set_option maxRecDepth 1000000 in
theorem c0_25 : SX.lawF [.one (some .i64), .one (some .i64), .sl 25 [none]] (facts0 25) (SX.runPol SX.lk SX.U SX.X SX.awS mcF mlF 100000 40 7 (SX.startF [.one (some .i64), .one (some .i64), .sl 25 [none]] (facts0 25)).1 (SX.startF [.one (some .i64), .one (some .i64), .sl 25 [none]] (facts0 25)).2) = true := by kernel_rfl
set_option maxRecDepth 1000000 in
theorem c0_27 : SX.lawF [.one (some .i64), .one (some .i64), .sl 27 [none]] (facts0 27) (SX.runPol SX.lk SX.U SX.X SX.awS mcF mlF 100000 40 7 (SX.startF [.one (some .i64), .one (some .i64), .sl 27 [none]] (facts0 27)).1 (SX.startF [.one (some .i64), .one (some .i64), .sl 27 [none]] (facts0 27)).2) = true := by kernel_rfl
set_option maxRecDepth 1000000 in
theorem c0_41 : SX.lawF [.one (some .i64), .one (some .i64), .sl 41 [none]] (facts0 41) (SX.runPol SX.lk SX.U SX.X SX.awS mcF mlF 100000 40 7 (SX.startF [.one (some .i64), .one (some .i64), .sl 41 [none]] (facts0 41)).1 (SX.startF [.one (some .i64), .one (some .i64), .sl 41 [none]] (facts0 41)).2) = true := by kernel_rfl
set_option maxRecDepth 1000000 in
theorem c0_43 : SX.lawF [.one (some .i64), .one (some .i64), .sl 43 [none]] (facts0 43) (SX.runPol SX.lk SX.U SX.X SX.awS mcF mlF 100000 40 7 (SX.startF [.one (some .i64), .one (some .i64), .sl 43 [none]] (facts0 43)).1 (SX.startF [.one (some .i64), .one (some .i64), .sl 43 [none]] (facts0 43)).2) = true := by kernel_rfl
set_option maxRecDepth 1000000 in
theorem c0_47 : SX.lawF [.one (some .i64), .one (some .i64), .sl 47 [none]] (facts0 47) (SX.runPol SX.lk SX.U SX.X SX.awS mcF mlF 100000 40 7 (SX.startF [.one (some .i64), .one (some .i64), .sl 47 [none]] (facts0 47)).1 (SX.startF [.one (some .i64), .one (some .i64), .sl 47 [none]] (facts0 47)).2) = true := by kernel_rfl
set_option maxRecDepth 1000000 in
theorem c1_10 : SX.lawF [.one (some .i64), .one (some .i64), .sl 10 [none]] (facts1 10) (SX.runPol SX.lk SX.U SX.X SX.awS mcF mlF 100000 40 7 (SX.startF [.one (some .i64), .one (some .i64), .sl 10 [none]] (facts1 10)).1 (SX.startF [.one (some .i64), .one (some .i64), .sl 10 [none]] (facts1 10)).2) = true := by kernel_rfl
set_option maxRecDepth 1000000 in
theorem c1_12 : SX.lawF [.one (some .i64), .one (some .i64), .sl 12 [none]] (facts1 12) (SX.runPol SX.lk SX.U SX.X SX.awS mcF mlF 100000 40 7 (SX.startF [.one (some .i64), .one (some .i64), .sl 12 [none]] (facts1 12)).1 (SX.startF [.one (some .i64), .one (some .i64), .sl 12 [none]] (facts1 12)).2) = true := by kernel_rfl
set_option maxRecDepth 1000000 in
theorem c1_15 : SX.lawF [.one (some .i64), .one (some .i64), .sl 15 [none]] (facts1 15) (SX.runPol SX.lk SX.U SX.X SX.awS mcF mlF 100000 40 7 (SX.startF [.one (some .i64), .one (some .i64), .sl 15 [none]] (facts1 15)).1 (SX.startF [.one (some .i64), .one (some .i64), .sl 15 [none]] (facts1 15)).2) = true := by kernel_rfl
set_option maxRecDepth 1000000 in
theorem c1_19 : SX.lawF [.one (some .i64), .one (some .i64), .sl 19 [none]] (facts1 19) (SX.runPol SX.lk SX.U SX.X SX.awS mcF mlF 100000 40 7 (SX.startF [.one (some .i64), .one (some .i64), .sl 19 [none]] (facts1 19)).1 (SX.startF [.one (some .i64), .one (some .i64), .sl 19 [none]] (facts1 19)).2) = true := by kernel_rfl
set_option maxRecDepth 1000000 in
theorem c1_23 : SX.lawF [.one (some .i64), .one (some .i64), .sl 23 [none]] (facts1 23) (SX.runPol SX.lk SX.U SX.X SX.awS mcF mlF 100000 40 7 (SX.startF [.one (some .i64), .one (some .i64), .sl 23 [none]] (facts1 23)).1 (SX.startF [.one (some .i64), .one (some .i64), .sl 23 [none]] (facts1 23)).2) = true := by kernel_rfl
set_option maxRecDepth 1000000 in
theorem c1_34 : SX.lawF [.one (some .i64), .one (some .i64), .sl 34 [none]] (facts1 34) (SX.runPol SX.lk SX.U SX.X SX.awS mcF mlF 100000 40 7 (SX.startF [.one (some .i64), .one (some .i64), .sl 34 [none]] (facts1 34)).1 (SX.startF [.one (some .i64), .one (some .i64), .sl 34 [none]] (facts1 34)).2) = true := by kernel_rfl
set_option maxRecDepth 1000000 in
theorem c1_38 : SX.lawF [.one (some .i64), .one (some .i64), .sl 38 [none]] (facts1 38) (SX.runPol SX.lk SX.U SX.X SX.awS mcF mlF 100000 40 7 (SX.startF [.one (some .i64), .one (some .i64), .sl 38 [none]] (facts1 38)).1 (SX.startF [.one (some .i64), .one (some .i64), .sl 38 [none]] (facts1 38)).2) = true := by kernel_rfl
set_option maxRecDepth 1000000 in
theorem c1_45 : SX.lawF [.one (some .i64), .one (some .i64), .sl 45 [none]] (facts1 45) (SX.runPol SX.lk SX.U SX.X SX.awS mcF mlF 100000 40 7 (SX.startF [.one (some .i64), .one (some .i64), .sl 45 [none]] (facts1 45)).1 (SX.startF [.one (some .i64), .one (some .i64), .sl 45 [none]] (facts1 45)).2) = true := by kernel_rfl
set_option maxRecDepth 1000000 in
theorem c1_48 : SX.lawF [.one (some .i64), .one (some .i64), .sl 48 [none]] (facts1 48) (SX.runPol SX.lk SX.U SX.X SX.awS mcF mlF 100000 40 7 (SX.startF [.one (some .i64), .one (some .i64), .sl 48 [none]] (facts1 48)).1 (SX.startF [.one (some .i64), .one (some .i64), .sl 48 [none]] (facts1 48)).2) = true := by kernel_rfl
set_option maxRecDepth 1000000 in
theorem c2_3 : SX.lawF [.one (some .i64), .one (some .i64), .sl 3 [none]] (facts2 3) (SX.runPol SX.lk SX.U SX.X SX.awS mcF mlF 100000 40 7 (SX.startF [.one (some .i64), .one (some .i64), .sl 3 [none]] (facts2 3)).1 (SX.startF [.one (some .i64), .one (some .i64), .sl 3 [none]] (facts2 3)).2) = true := by kernel_rfl
set_option maxRecDepth 1000000 in
theorem c2_9 : SX.lawF [.one (some .i64), .one (some .i64), .sl 9 [none]] (facts2 9) (SX.runPol SX.lk SX.U SX.X SX.awS mcF mlF 100000 40 7 (SX.startF [.one (some .i64), .one (some .i64), .sl 9 [none]] (facts2 9)).1 (SX.startF [.one (some .i64), .one (some .i64), .sl 9 [none]] (facts2 9)).2) = true := by kernel_rfl
set_option maxRecDepth 1000000 in
theorem c2_31 : SX.lawF [.one (some .i64), .one (some .i64), .sl 31 [none]] (facts2 31) (SX.runPol SX.lk SX.U SX.X SX.awS mcF mlF 100000 40 7 (SX.startF [.one (some .i64), .one (some .i64), .sl 31 [none]] (facts2 31)).1 (SX.startF [.one (some .i64), .one (some .i64), .sl 31 [none]] (facts2 31)).2) = true := by kernel_rfl
set_option maxRecDepth 1000000 in
theorem c2_32 : SX.lawF [.one (some .i64), .one (some .i64), .sl 32 [none]] (facts2 32) (SX.runPol SX.lk SX.U SX.X SX.awS mcF mlF 100000 40 7 (SX.startF [.one (some .i64), .one (some .i64), .sl 32 [none]] (facts2 32)).1 (SX.startF [.one (some .i64), .one (some .i64), .sl 32 [none]] (facts2 32)).2) = true := by kernel_rfl
set_option maxRecDepth 1000000 in
theorem c2_39 : SX.lawF [.one (some .i64), .one (some .i64), .sl 39 [none]] (facts2 39) (SX.runPol SX.lk SX.U SX.X SX.awS mcF mlF 100000 40 7 (SX.startF [.one (some .i64), .one (some .i64), .sl 39 [none]] (facts2 39)).1 (SX.startF [.one (some .i64), .one (some .i64), .sl 39 [none]] (facts2 39)).2) = true := by kernel_rfl
set_option maxRecDepth 1000000 in
theorem c2_49 : SX.lawF [.one (some .i64), .one (some .i64), .sl 49 [none]] (facts2 49) (SX.runPol SX.lk SX.U SX.X SX.awS mcF mlF 100000 40 7 (SX.startF [.one (some .i64), .one (some .i64), .sl 49 [none]] (facts2 49)).1 (SX.startF [.one (some .i64), .one (some .i64), .sl 49 [none]] (facts2 49)).2) = true := by kernel_rfl
set_option maxRecDepth 1000000 in
theorem c3_6 : SX.lawF [.one (some .i64), .one (some .i64), .sl 6 [none]] (facts3 6) (SX.runPol SX.lk SX.U SX.X SX.awS mcF mlF 100000 40 7 (SX.startF [.one (some .i64), .one (some .i64), .sl 6 [none]] (facts3 6)).1 (SX.startF [.one (some .i64), .one (some .i64), .sl 6 [none]] (facts3 6)).2) = true := by kernel_rfl
set_option maxRecDepth 1000000 in
theorem c3_13 : SX.lawF [.one (some .i64), .one (some .i64), .sl 13 [none]] (facts3 13) (SX.runPol SX.lk SX.U SX.X SX.awS mcF mlF 100000 40 7 (SX.startF [.one (some .i64), .one (some .i64), .sl 13 [none]] (facts3 13)).1 (SX.startF [.one (some .i64), .one (some .i64), .sl 13 [none]] (facts3 13)).2) = true := by kernel_rfl
set_option maxRecDepth 1000000 in
theorem c3_14 : SX.lawF [.one (some .i64), .one (some .i64), .sl 14 [none]] (facts3 14) (SX.runPol SX.lk SX.U SX.X SX.awS mcF mlF 100000 40 7 (SX.startF [.one (some .i64), .one (some .i64), .sl 14 [none]] (facts3 14)).1 (SX.startF [.one (some .i64), .one (some .i64), .sl 14 [none]] (facts3 14)).2) = true := by kernel_rfl
set_option maxRecDepth 1000000 in
theorem c3_19 : SX.lawF [.one (some .i64), .one (some .i64), .sl 19 [none]] (facts3 19) (SX.runPol SX.lk SX.U SX.X SX.awS mcF mlF 100000 40 7 (SX.startF [.one (some .i64), .one (some .i64), .sl 19 [none]] (facts3 19)).1 (SX.startF [.one (some .i64), .one (some .i64), .sl 19 [none]] (facts3 19)).2) = true := by kernel_rfl
set_option maxRecDepth 1000000 in
theorem c3_23 : SX.lawF [.one (some .i64), .one (some .i64), .sl 23 [none]] (facts3 23) (SX.runPol SX.lk SX.U SX.X SX.awS mcF mlF 100000 40 7 (SX.startF [.one (some .i64), .one (some .i64), .sl 23 [none]] (facts3 23)).1 (SX.startF [.one (some .i64), .one (some .i64), .sl 23 [none]] (facts3 23)).2) = true := by kernel_rfl
set_option maxRecDepth 1000000 in
theorem c3_29 : SX.lawF [.one (some .i64), .one (some .i64), .sl 29 [none]] (facts3 29) (SX.runPol SX.lk SX.U SX.X SX.awS mcF mlF 100000 40 7 (SX.startF [.one (some .i64), .one (some .i64), .sl 29 [none]] (facts3 29)).1 (SX.startF [.one (some .i64), .one (some .i64), .sl 29 [none]] (facts3 29)).2) = true := by kernel_rfl
set_option maxRecDepth 1000000 in
theorem c3_36 : SX.lawF [.one (some .i64), .one (some .i64), .sl 36 [none]] (facts3 36) (SX.runPol SX.lk SX.U SX.X SX.awS mcF mlF 100000 40 7 (SX.startF [.one (some .i64), .one (some .i64), .sl 36 [none]] (facts3 36)).1 (SX.startF [.one (some .i64), .one (some .i64), .sl 36 [none]] (facts3 36)).2) = true := by kernel_rfl
set_option maxRecDepth 1000000 in
theorem c4_3 : SX.lawF [.one (some .i64), .one (some .i64), .sl 3 [none]] (facts4 3) (SX.runPol SX.lk SX.U SX.X SX.awS mcF mlF 100000 40 7 (SX.startF [.one (some .i64), .one (some .i64), .sl 3 [none]] (facts4 3)).1 (SX.startF [.one (some .i64), .one (some .i64), .sl 3 [none]] (facts4 3)).2) = true := by kernel_rfl
set_option maxRecDepth 1000000 in
theorem c4_12 : SX.lawF [.one (some .i64), .one (some .i64), .sl 12 [none]] (facts4 12) (SX.runPol SX.lk SX.U SX.X SX.awS mcF mlF 100000 40 7 (SX.startF [.one (some .i64), .one (some .i64), .sl 12 [none]] (facts4 12)).1 (SX.startF [.one (some .i64), .one (some .i64), .sl 12 [none]] (facts4 12)).2) = true := by kernel_rfl
set_option maxRecDepth 1000000 in
theorem c4_14 : SX.lawF [.one (some .i64), .one (some .i64), .sl 14 [none]] (facts4 14) (SX.runPol SX.lk SX.U SX.X SX.awS mcF mlF 100000 40 7 (SX.startF [.one (some .i64), .one (some .i64), .sl 14 [none]] (facts4 14)).1 (SX.startF [.one (some .i64), .one (some .i64), .sl 14 [none]] (facts4 14)).2) = true := by kernel_rfl
set_option maxRecDepth 1000000 in
theorem c4_16 : SX.lawF [.one (some .i64), .one (some .i64), .sl 16 [none]] (facts4 16) (SX.runPol SX.lk SX.U SX.X SX.awS mcF mlF 100000 40 7 (SX.startF [.one (some .i64), .one (some .i64), .sl 16 [none]] (facts4 16)).1 (SX.startF [.one (some .i64), .one (some .i64), .sl 16 [none]] (facts4 16)).2) = true := by kernel_rfl
set_option maxRecDepth 1000000 in
theorem c4_19 : SX.lawF [.one (some .i64), .one (some .i64), .sl 19 [none]] (facts4 19) (SX.runPol SX.lk SX.U SX.X SX.awS mcF mlF 100000 40 7 (SX.startF [.one (some .i64), .one (some .i64), .sl 19 [none]] (facts4 19)).1 (SX.startF [.one (some .i64), .one (some .i64), .sl 19 [none]] (facts4 19)).2) = true := by kernel_rfl
set_option maxRecDepth 1000000 in
theorem c4_22 : SX.lawF [.one (some .i64), .one (some .i64), .sl 22 [none]] (facts4 22) (SX.runPol SX.lk SX.U SX.X SX.awS mcF mlF 100000 40 7 (SX.startF [.one (some .i64), .one (some .i64), .sl 22 [none]] (facts4 22)).1 (SX.startF [.one (some .i64), .one (some .i64), .sl 22 [none]] (facts4 22)).2) = true := by kernel_rfl
set_option maxRecDepth 1000000 in
theorem c4_32 : SX.lawF [.one (some .i64), .one (some .i64), .sl 32 [none]] (facts4 32) (SX.runPol SX.lk SX.U SX.X SX.awS mcF mlF 100000 40 7 (SX.startF [.one (some .i64), .one (some .i64), .sl 32 [none]] (facts4 32)).1 (SX.startF [.one (some .i64), .one (some .i64), .sl 32 [none]] (facts4 32)).2) = true := by kernel_rfl
set_option maxRecDepth 1000000 in
theorem c4_33 : SX.lawF [.one (some .i64), .one (some .i64), .sl 33 [none]] (facts4 33) (SX.runPol SX.lk SX.U SX.X SX.awS mcF mlF 100000 40 7 (SX.startF [.one (some .i64), .one (some .i64), .sl 33 [none]] (facts4 33)).1 (SX.startF [.one (some .i64), .one (some .i64), .sl 33 [none]] (facts4 33)).2) = true := by kernel_rfl
set_option maxRecDepth 1000000 in
theorem c4_39 : SX.lawF [.one (some .i64), .one (some .i64), .sl 39 [none]] (facts4 39) (SX.runPol SX.lk SX.U SX.X SX.awS mcF mlF 100000 40 7 (SX.startF [.one (some .i64), .one (some .i64), .sl 39 [none]] (facts4 39)).1 (SX.startF [.one (some .i64), .one (some .i64), .sl 39 [none]] (facts4 39)).2) = true := by kernel_rfl
set_option maxRecDepth 1000000 in
theorem c4_50 : SX.lawF [.one (some .i64), .one (some .i64), .sl 50 [none]] (facts4 50) (SX.runPol SX.lk SX.U SX.X SX.awS mcF mlF 100000 40 7 (SX.startF [.one (some .i64), .one (some .i64), .sl 50 [none]] (facts4 50)).1 (SX.startF [.one (some .i64), .one (some .i64), .sl 50 [none]] (facts4 50)).2) = true := by kernel_rfl
end Go.Proofs.Ytchdlanichhkcaa.fxFlags
