/- astrolabelaw15.StateParts, run for each place. -/
import Derived.Test.YtdleeeahonfnkaaSxHa
import Derived.Test.YtdleeeahonfnkaaStAw
namespace Go.Proofs.Ytdleeeahonfnkaa.stateParts
open Go SX
abbrev ars : List Ar := [.agg (List.replicate 24 (some .i64)), .one (some .i64), .one (some .i64), .one (some .i64), .one (some .i64)]
def ds : Defs := [(52, .conv .i64, [.x 24])]
def facts0 : List (Bool × A × A × Bool) := [(true, .x 52, .k 0, true)]
set_option maxRecDepth 1000000 in
theorem ran0 : lawH ars facts0 ds (.k 1) (runPol lk U X sums15 never never0 100000 40 10 (startF ars facts0).1 (startF ars facts0).2) = true := by kernel_rfl
def facts1 : List (Bool × A × A × Bool) := [(true, .x 52, .k 1, true)]
set_option maxRecDepth 1000000 in
theorem ran1 : lawH ars facts1 ds (.k 1) (runPol lk U X sums15 never never0 100000 40 10 (startF ars facts1).1 (startF ars facts1).2) = true := by kernel_rfl
def facts2 : List (Bool × A × A × Bool) := [(true, .x 52, .k 2, true)]
set_option maxRecDepth 1000000 in
theorem ran2 : lawH ars facts2 ds (.k 1) (runPol lk U X sums15 never never0 100000 40 10 (startF ars facts2).1 (startF ars facts2).2) = true := by kernel_rfl
def facts3 : List (Bool × A × A × Bool) := [(true, .x 52, .k 3, true)]
set_option maxRecDepth 1000000 in
theorem ran3 : lawH ars facts3 ds (.k 1) (runPol lk U X sums15 never never0 100000 40 10 (startF ars facts3).1 (startF ars facts3).2) = true := by kernel_rfl
def facts4 : List (Bool × A × A × Bool) := [(true, .x 52, .k 4, true)]
set_option maxRecDepth 1000000 in
theorem ran4 : lawH ars facts4 ds (.k 1) (runPol lk U X sums15 never never0 100000 40 10 (startF ars facts4).1 (startF ars facts4).2) = true := by kernel_rfl
def facts5 : List (Bool × A × A × Bool) := [(true, .x 52, .k 5, true)]
set_option maxRecDepth 1000000 in
theorem ran5 : lawH ars facts5 ds (.k 1) (runPol lk U X sums15 never never0 100000 40 10 (startF ars facts5).1 (startF ars facts5).2) = true := by kernel_rfl
def facts6 : List (Bool × A × A × Bool) := [(true, .x 52, .k 6, true)]
set_option maxRecDepth 1000000 in
theorem ran6 : lawH ars facts6 ds (.k 1) (runPol lk U X sums15 never never0 100000 40 10 (startF ars facts6).1 (startF ars facts6).2) = true := by kernel_rfl
def facts7 : List (Bool × A × A × Bool) := [(true, .x 52, .k 7, true)]
set_option maxRecDepth 1000000 in
theorem ran7 : lawH ars facts7 ds (.k 1) (runPol lk U X sums15 never never0 100000 40 10 (startF ars facts7).1 (startF ars facts7).2) = true := by kernel_rfl
def facts8 : List (Bool × A × A × Bool) := [(true, .x 52, .k 8, true)]
set_option maxRecDepth 1000000 in
theorem ran8 : lawH ars facts8 ds (.k 1) (runPol lk U X sums15 never never0 100000 40 10 (startF ars facts8).1 (startF ars facts8).2) = true := by kernel_rfl
def facts9 : List (Bool × A × A × Bool) := [(true, .x 52, .k 9, true)]
set_option maxRecDepth 1000000 in
theorem ran9 : lawH ars facts9 ds (.k 1) (runPol lk U X sums15 never never0 100000 40 10 (startF ars facts9).1 (startF ars facts9).2) = true := by kernel_rfl
def facts10 : List (Bool × A × A × Bool) := [(true, .x 52, .k 10, true)]
set_option maxRecDepth 1000000 in
theorem ran10 : lawH ars facts10 ds (.k 1) (runPol lk U X sums15 never never0 100000 40 10 (startF ars facts10).1 (startF ars facts10).2) = true := by kernel_rfl
def facts22 : List (Bool × A × A × Bool) := [(false, .x 52, .k 0, true)]
set_option maxRecDepth 1000000 in
theorem ran22 : lawH ars facts22 ds (.k 1) (runPol lk U X sums15 never never0 100000 40 10 (startF ars facts22).1 (startF ars facts22).2) = true := by kernel_rfl
def facts23 : List (Bool × A × A × Bool) := [(false, .k 21, .x 52, true)]
set_option maxRecDepth 1000000 in
theorem ran23 : lawH ars facts23 ds (.k 1) (runPol lk U X sums15 never never0 100000 40 10 (startF ars facts23).1 (startF ars facts23).2) = true := by kernel_rfl
end Go.Proofs.Ytdleeeahonfnkaa.stateParts
