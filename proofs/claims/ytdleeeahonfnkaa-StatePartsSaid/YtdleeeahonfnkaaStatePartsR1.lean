/- astrolabelaw15.StateParts, run for each place: the others. -/
import Derived.Test.YtdleeeahonfnkaaSxHa
import Derived.Test.YtdleeeahonfnkaaStAw
namespace Go.Proofs.Ytdleeeahonfnkaa.stateParts
open Go SX
abbrev ars' : List Ar := [.agg (List.replicate 24 (some .i64)), .one (some .i64), .one (some .i64), .one (some .i64), .one (some .i64)]
def ds' : Defs := [(52, .conv .i64, [.x 24])]
def facts11 : List (Bool × A × A × Bool) := [(true, .x 52, .k 11, true)]
set_option maxRecDepth 1000000 in
theorem ran11 : lawH ars' facts11 ds' (.k 1) (runPol lk U X sums15 never never0 100000 40 10 (startF ars' facts11).1 (startF ars' facts11).2) = true := by kernel_rfl
def facts12 : List (Bool × A × A × Bool) := [(true, .x 52, .k 12, true)]
set_option maxRecDepth 1000000 in
theorem ran12 : lawH ars' facts12 ds' (.k 1) (runPol lk U X sums15 never never0 100000 40 10 (startF ars' facts12).1 (startF ars' facts12).2) = true := by kernel_rfl
def facts13 : List (Bool × A × A × Bool) := [(true, .x 52, .k 13, true)]
set_option maxRecDepth 1000000 in
theorem ran13 : lawH ars' facts13 ds' (.k 1) (runPol lk U X sums15 never never0 100000 40 10 (startF ars' facts13).1 (startF ars' facts13).2) = true := by kernel_rfl
def facts14 : List (Bool × A × A × Bool) := [(true, .x 52, .k 14, true)]
set_option maxRecDepth 1000000 in
theorem ran14 : lawH ars' facts14 ds' (.k 1) (runPol lk U X sums15 never never0 100000 40 10 (startF ars' facts14).1 (startF ars' facts14).2) = true := by kernel_rfl
def facts15 : List (Bool × A × A × Bool) := [(true, .x 52, .k 15, true)]
set_option maxRecDepth 1000000 in
theorem ran15 : lawH ars' facts15 ds' (.k 1) (runPol lk U X sums15 never never0 100000 40 10 (startF ars' facts15).1 (startF ars' facts15).2) = true := by kernel_rfl
def facts16 : List (Bool × A × A × Bool) := [(true, .x 52, .k 16, true)]
set_option maxRecDepth 1000000 in
theorem ran16 : lawH ars' facts16 ds' (.k 1) (runPol lk U X sums15 never never0 100000 40 10 (startF ars' facts16).1 (startF ars' facts16).2) = true := by kernel_rfl
def facts17 : List (Bool × A × A × Bool) := [(true, .x 52, .k 17, true)]
set_option maxRecDepth 1000000 in
theorem ran17 : lawH ars' facts17 ds' (.k 1) (runPol lk U X sums15 never never0 100000 40 10 (startF ars' facts17).1 (startF ars' facts17).2) = true := by kernel_rfl
def facts18 : List (Bool × A × A × Bool) := [(true, .x 52, .k 18, true)]
set_option maxRecDepth 1000000 in
theorem ran18 : lawH ars' facts18 ds' (.k 1) (runPol lk U X sums15 never never0 100000 40 10 (startF ars' facts18).1 (startF ars' facts18).2) = true := by kernel_rfl
def facts19 : List (Bool × A × A × Bool) := [(true, .x 52, .k 19, true)]
set_option maxRecDepth 1000000 in
theorem ran19 : lawH ars' facts19 ds' (.k 1) (runPol lk U X sums15 never never0 100000 40 10 (startF ars' facts19).1 (startF ars' facts19).2) = true := by kernel_rfl
def facts20 : List (Bool × A × A × Bool) := [(true, .x 52, .k 20, true)]
set_option maxRecDepth 1000000 in
theorem ran20 : lawH ars' facts20 ds' (.k 1) (runPol lk U X sums15 never never0 100000 40 10 (startF ars' facts20).1 (startF ars' facts20).2) = true := by kernel_rfl
def facts21 : List (Bool × A × A × Bool) := [(true, .x 52, .k 21, true)]
set_option maxRecDepth 1000000 in
theorem ran21 : lawH ars' facts21 ds' (.k 1) (runPol lk U X sums15 never never0 100000 40 10 (startF ars' facts21).1 (startF ars' facts21).2) = true := by kernel_rfl
end Go.Proofs.Ytdleeeahonfnkaa.stateParts
