/- astrolabelaw15.StateKept, run where the estimate is good, and where it is not. -/
import Derived.Test.YtdleeeahonfnkaaSxHa
import Derived.Test.YtdleeeahonfnkaaStAw
namespace Go.Proofs.Ytdleeeahonfnkaa.stateKept
open Go SX
def facts0 : List (Bool × A × A × Bool) := [(true, .x 96, .k 1, true), (false, .x 52, .k (-549755813888), false), (false, .k 549755813888, .x 52, false), (false, .x 53, .k (-549755813888), false), (false, .k 549755813888, .x 53, false), (false, .x 54, .k (-549755813888), false), (false, .k 549755813888, .x 54, false), (false, .x 55, .k (-9007199254740992), false), (false, .k 9007199254740992, .x 55, false), (false, .x 56, .k (-9007199254740992), false), (false, .k 9007199254740992, .x 56, false), (false, .x 57, .k (-9007199254740992), false), (false, .k 9007199254740992, .x 57, false), (false, .x 58, .k (-134217728), false), (false, .k 134217728, .x 58, false), (false, .x 59, .k (-134217728), false), (false, .k 134217728, .x 59, false), (false, .x 60, .k (-134217728), false), (false, .k 134217728, .x 60, false), (false, .x 61, .k (-1073741824), false), (false, .k 1073741824, .x 61, false), (false, .x 62, .k (-1073741824), false), (false, .k 1073741824, .x 62, false), (false, .x 63, .k (-1073741824), false), (false, .k 1073741824, .x 63, false), (false, .x 64, .k (-2147483648), false), (false, .k 2147483648, .x 64, false), (false, .x 65, .k (-2147483648), false), (false, .k 2147483648, .x 65, false), (false, .x 66, .k (-2147483648), false), (false, .k 2147483648, .x 66, false), (false, .x 67, .k (-2147483648), false), (false, .k 2147483648, .x 67, false), (false, .x 68, .k (-2147483648), false), (false, .k 2147483648, .x 68, false), (false, .x 69, .k (-2147483648), false), (false, .k 2147483648, .x 69, false), (false, .x 70, .k (-137438953472), false), (false, .k 137438953472, .x 70, false), (false, .x 71, .k (-137438953472), false), (false, .k 137438953472, .x 71, false)]
def ds0 : Defs := (List.range 24).map (fun i => (48 + i, .conv .i64, [.x i])) ++ [(96, .u 70, [.x 48, .x 49, .x 50, .x 51])]
set_option maxRecDepth 1000000 in
theorem ran0 : lawH [.agg (List.replicate 24 (some .i64)), .agg (List.replicate 24 (some .i64))] facts0 ds0 (.k 1) (runPol lk U X sums15 never never0 100000 40 9 (startF [.agg (List.replicate 24 (some .i64)), .agg (List.replicate 24 (some .i64))] facts0).1 (startF [.agg (List.replicate 24 (some .i64)), .agg (List.replicate 24 (some .i64))] facts0).2) = true := by kernel_rfl
def facts1 : List (Bool × A × A × Bool) := [(true, .x 300, .k 0, true)]
def ds1 : Defs := (List.range 24).map (fun i => (48 + i, .conv .i64, [.x i])) ++ [(300, .u 71, (List.range 24).map (fun i => A.x (48 + i)))]
set_option maxRecDepth 1000000 in
theorem ran1 : lawH [.agg (List.replicate 24 (some .i64)), .agg (List.replicate 24 (some .i64))] facts1 ds1 (.k 1) (runPol lk U X sums15 never never0 100000 40 9 (startF [.agg (List.replicate 24 (some .i64)), .agg (List.replicate 24 (some .i64))] facts1).1 (startF [.agg (List.replicate 24 (some .i64)), .agg (List.replicate 24 (some .i64))] facts1).2) = true := by kernel_rfl
theorem eqs_mem {g : Sg} : ∀ {l : Defs}, EqsP g l → ∀ d ∈ l, g d.1 = mean U d.2.1 (d.2.2.map (A.val g))
  | [], _, d, h => by cases h
  | (_, _, _) :: _, ⟨h1, h2⟩, d, h => by
    rcases List.mem_cons.1 h with rfl | h
    · exact h1
    · exact eqs_mem h2 d h
theorem told0 {g : Sg} {v : Nat → Int} (hv : ∀ j, j < 24 → g (48 + j) = v j) (hb : ∀ j, j < 24 → -boxF j ≤ v j ∧ v j ≤ boxF j) (hn : g 96 = 1) : FactsOk g facts0 := by
  have lo : ∀ (i : Nat) (B : Int), i < 24 → boxF i = B → ciOk g (false, .x (48 + i), .k (-B), false) := fun i B hi hB => fact_lt (decide_eq_false (by
    have h1 := hb i hi
    have h2 := hv i hi
    show ¬ g (48 + i) < -B
    omega))
  have hi : ∀ (i : Nat) (B : Int), i < 24 → boxF i = B → ciOk g (false, .k B, .x (48 + i), false) := fun i B hi hB => fact_lt (decide_eq_false (by
    have h1 := hb i hi
    have h2 := hv i hi
    show ¬ B < g (48 + i)
    omega))
  exact ⟨fact_eq (decide_eq_true hn), lo 4 549755813888 (by omega) rfl, hi 4 549755813888 (by omega) rfl, lo 5 549755813888 (by omega) rfl, hi 5 549755813888 (by omega) rfl, lo 6 549755813888 (by omega) rfl, hi 6 549755813888 (by omega) rfl, lo 7 9007199254740992 (by omega) rfl, hi 7 9007199254740992 (by omega) rfl, lo 8 9007199254740992 (by omega) rfl, hi 8 9007199254740992 (by omega) rfl, lo 9 9007199254740992 (by omega) rfl, hi 9 9007199254740992 (by omega) rfl, lo 10 134217728 (by omega) rfl, hi 10 134217728 (by omega) rfl, lo 11 134217728 (by omega) rfl, hi 11 134217728 (by omega) rfl, lo 12 134217728 (by omega) rfl, hi 12 134217728 (by omega) rfl, lo 13 1073741824 (by omega) rfl, hi 13 1073741824 (by omega) rfl, lo 14 1073741824 (by omega) rfl, hi 14 1073741824 (by omega) rfl, lo 15 1073741824 (by omega) rfl, hi 15 1073741824 (by omega) rfl, lo 16 2147483648 (by omega) rfl, hi 16 2147483648 (by omega) rfl, lo 17 2147483648 (by omega) rfl, hi 17 2147483648 (by omega) rfl, lo 18 2147483648 (by omega) rfl, hi 18 2147483648 (by omega) rfl, lo 19 2147483648 (by omega) rfl, hi 19 2147483648 (by omega) rfl, lo 20 2147483648 (by omega) rfl, hi 20 2147483648 (by omega) rfl, lo 21 2147483648 (by omega) rfl, hi 21 2147483648 (by omega) rfl, lo 22 137438953472 (by omega) rfl, hi 22 137438953472 (by omega) rfl, lo 23 137438953472 (by omega) rfl, hi 23 137438953472 (by omega) rfl, trivial⟩
set_option maxRecDepth 100000 in
theorem walkL {us ts : List Value} (f : FitL (List.replicate 24 (some .i64)) us) (k : FitL (List.replicate 24 (some .i64)) ts) {W : World} :
    Calls Try.prog 9 #[.agg ⟨us⟩, .agg ⟨ts⟩] W fun e w' => e = .returned (.bool true) ∧ RowKit.Below W.heap.size W w' := by
  obtain ⟨all, fit⟩ : ∃ all, FitAs W [.agg (List.replicate 24 (some .i64)), .agg (List.replicate 24 (some .i64))] [.agg ⟨us⟩, .agg ⟨ts⟩] all := ⟨_, us, _, rfl, ⟨rfl, f⟩, ⟨ts, _, rfl, ⟨rfl, k⟩, rfl⟩⟩
  have hconv : ∀ {g : Sg} {x : Defs}, (∀ j, j < 48 → g j = sgOf all j) → EqsP g ((List.range 24).map (fun i => (48 + i, .conv .i64, [.x i])) ++ x) → ∀ j, j < 24 → g (48 + j) = wrapF .i64 (sgOf all j) := fun {g x} hg he j hj => by
    have := eqs_mem he (48 + j, .conv .i64, [.x j]) (List.mem_append_left _ (List.mem_map.2 ⟨j, List.mem_range.2 hj, rfl⟩))
    rw [← hg j (by omega)]
    exact this
  cases hq : goodQ (fun i => wrapF .i64 (sgOf all i))
  · refine law_fitH (all := all) namesOk mixed (fun g => sums15_ok g) ran1 (fun g hg he => ?_) fit
    have hv := hconv hg he
    have h3 := eqs_mem he (300, .u 71, (List.range 24).map (fun i => A.x (48 + i))) (List.mem_append_right _ (List.mem_singleton.2 rfl))
    refine ⟨⟨fact_eq (decide_eq_true ?_), trivial⟩, rfl⟩
    have h3 : g 300 = b2i (goodQ (cellF (((List.range 24).map (fun i => A.x (48 + i))).map (A.val g)))) := h3
    have e : goodQ (cellF (((List.range 24).map (fun i => A.x (48 + i))).map (A.val g))) = goodQ (fun i => wrapF .i64 (sgOf all i)) := good_congr fun j hj => by
      rw [← hv j hj]
      simp only [cellF, List.getD, List.getElem?_map, List.getElem?_range hj, Option.map_some, Option.getD_some]
      rfl
    show g 300 = 0
    rw [h3, e, hq]; rfl
  · refine law_fitH (all := all) namesOk mixed (fun g => sums15_ok g) ran0 (fun g hg he => ?_) fit
    have hv := hconv hg he
    have h3 := eqs_mem he (96, .u 70, [.x 48, .x 49, .x 50, .x 51]) (List.mem_append_right _ (List.mem_singleton.2 rfl))
    have h3 : g 96 = b2i (nearQ (cellF [g 48, g 49, g 50, g 51])) := h3
    unfold goodQ at hq
    rw [Bool.and_eq_true, inBox_iff] at hq
    refine ⟨told0 hv hq.1 ?_, rfl⟩
    have e : nearQ (cellF [g 48, g 49, g 50, g 51]) = nearQ (fun i => wrapF .i64 (sgOf all i)) := near_congr fun j hj => by
      rw [← hv j (by omega)]
      match j, hj with
      | 0, _ => rfl
      | 1, _ => rfl
      | 2, _ => rfl
      | 3, _ => rfl
    rw [h3, e, hq.2]; rfl
end Go.Proofs.Ytdleeeahonfnkaa.stateKept
