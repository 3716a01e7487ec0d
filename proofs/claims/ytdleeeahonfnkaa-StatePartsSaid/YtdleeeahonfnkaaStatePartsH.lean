/- astrolabelaw15.StateParts: the cases put together. -/
import Derived.Test.YtdleeeahonfnkaaStatePartsR0
import Derived.Test.YtdleeeahonfnkaaStatePartsR1
namespace Go.Proofs.Ytdleeeahonfnkaa.stateParts
open Go SX
set_option maxRecDepth 100000 in
theorem walk {vs all : List Value} {W : World} (fit : FitAs W ars vs all) :
    Calls Try.prog 10 ⟨vs⟩ W fun e w' => e = .returned (.bool true) ∧ RowKit.Below W.heap.size W w' := by
  have told : ∀ {g : Sg}, (∀ j, j < 28 → g j = sgOf all j) → g 52 = wrapF .i64 (g 24) → g 52 = wrapF .i64 (sgOf all 24) := fun {g} hg he => by
    rw [he, hg 24 (by decide)]
  generalize hc : wrapF .i64 (sgOf all 24) = c at told
  by_cases h0 : c < 0
  · exact law_fitH (all := all) namesOk mixed (fun g => sums15_ok g) ran22 (fun g hg he => ⟨⟨fact_lt (decide_eq_true (by have := told hg he.1; show g 52 < 0; omega)), trivial⟩, rfl⟩) fit
  by_cases h1 : 21 < c
  · exact law_fitH (all := all) namesOk mixed (fun g => sums15_ok g) ran23 (fun g hg he => ⟨⟨fact_lt (decide_eq_true (by have := told hg he.1; show 21 < g 52; omega)), trivial⟩, rfl⟩) fit
  clear hc
  have hc : c = 0 ∨ c = 1 ∨ c = 2 ∨ c = 3 ∨ c = 4 ∨ c = 5 ∨ c = 6 ∨ c = 7 ∨ c = 8 ∨ c = 9 ∨ c = 10 ∨ c = 11 ∨ c = 12 ∨ c = 13 ∨ c = 14 ∨ c = 15 ∨ c = 16 ∨ c = 17 ∨ c = 18 ∨ c = 19 ∨ c = 20 ∨ c = 21 := by omega
  rcases hc with hc | hc | hc | hc | hc | hc | hc | hc | hc | hc | hc | hc | hc | hc | hc | hc | hc | hc | hc | hc | hc | hc
  · obtain rfl := hc
    exact law_fitH (all := all) namesOk mixed (fun g => sums15_ok g) ran0 (fun g hg he => ⟨⟨fact_eq (decide_eq_true (told hg he.1)), trivial⟩, rfl⟩) fit
  · obtain rfl := hc
    exact law_fitH (all := all) namesOk mixed (fun g => sums15_ok g) ran1 (fun g hg he => ⟨⟨fact_eq (decide_eq_true (told hg he.1)), trivial⟩, rfl⟩) fit
  · obtain rfl := hc
    exact law_fitH (all := all) namesOk mixed (fun g => sums15_ok g) ran2 (fun g hg he => ⟨⟨fact_eq (decide_eq_true (told hg he.1)), trivial⟩, rfl⟩) fit
  · obtain rfl := hc
    exact law_fitH (all := all) namesOk mixed (fun g => sums15_ok g) ran3 (fun g hg he => ⟨⟨fact_eq (decide_eq_true (told hg he.1)), trivial⟩, rfl⟩) fit
  · obtain rfl := hc
    exact law_fitH (all := all) namesOk mixed (fun g => sums15_ok g) ran4 (fun g hg he => ⟨⟨fact_eq (decide_eq_true (told hg he.1)), trivial⟩, rfl⟩) fit
  · obtain rfl := hc
    exact law_fitH (all := all) namesOk mixed (fun g => sums15_ok g) ran5 (fun g hg he => ⟨⟨fact_eq (decide_eq_true (told hg he.1)), trivial⟩, rfl⟩) fit
  · obtain rfl := hc
    exact law_fitH (all := all) namesOk mixed (fun g => sums15_ok g) ran6 (fun g hg he => ⟨⟨fact_eq (decide_eq_true (told hg he.1)), trivial⟩, rfl⟩) fit
  · obtain rfl := hc
    exact law_fitH (all := all) namesOk mixed (fun g => sums15_ok g) ran7 (fun g hg he => ⟨⟨fact_eq (decide_eq_true (told hg he.1)), trivial⟩, rfl⟩) fit
  · obtain rfl := hc
    exact law_fitH (all := all) namesOk mixed (fun g => sums15_ok g) ran8 (fun g hg he => ⟨⟨fact_eq (decide_eq_true (told hg he.1)), trivial⟩, rfl⟩) fit
  · obtain rfl := hc
    exact law_fitH (all := all) namesOk mixed (fun g => sums15_ok g) ran9 (fun g hg he => ⟨⟨fact_eq (decide_eq_true (told hg he.1)), trivial⟩, rfl⟩) fit
  · obtain rfl := hc
    exact law_fitH (all := all) namesOk mixed (fun g => sums15_ok g) ran10 (fun g hg he => ⟨⟨fact_eq (decide_eq_true (told hg he.1)), trivial⟩, rfl⟩) fit
  · obtain rfl := hc
    exact law_fitH (all := all) namesOk mixed (fun g => sums15_ok g) ran11 (fun g hg he => ⟨⟨fact_eq (decide_eq_true (told hg he.1)), trivial⟩, rfl⟩) fit
  · obtain rfl := hc
    exact law_fitH (all := all) namesOk mixed (fun g => sums15_ok g) ran12 (fun g hg he => ⟨⟨fact_eq (decide_eq_true (told hg he.1)), trivial⟩, rfl⟩) fit
  · obtain rfl := hc
    exact law_fitH (all := all) namesOk mixed (fun g => sums15_ok g) ran13 (fun g hg he => ⟨⟨fact_eq (decide_eq_true (told hg he.1)), trivial⟩, rfl⟩) fit
  · obtain rfl := hc
    exact law_fitH (all := all) namesOk mixed (fun g => sums15_ok g) ran14 (fun g hg he => ⟨⟨fact_eq (decide_eq_true (told hg he.1)), trivial⟩, rfl⟩) fit
  · obtain rfl := hc
    exact law_fitH (all := all) namesOk mixed (fun g => sums15_ok g) ran15 (fun g hg he => ⟨⟨fact_eq (decide_eq_true (told hg he.1)), trivial⟩, rfl⟩) fit
  · obtain rfl := hc
    exact law_fitH (all := all) namesOk mixed (fun g => sums15_ok g) ran16 (fun g hg he => ⟨⟨fact_eq (decide_eq_true (told hg he.1)), trivial⟩, rfl⟩) fit
  · obtain rfl := hc
    exact law_fitH (all := all) namesOk mixed (fun g => sums15_ok g) ran17 (fun g hg he => ⟨⟨fact_eq (decide_eq_true (told hg he.1)), trivial⟩, rfl⟩) fit
  · obtain rfl := hc
    exact law_fitH (all := all) namesOk mixed (fun g => sums15_ok g) ran18 (fun g hg he => ⟨⟨fact_eq (decide_eq_true (told hg he.1)), trivial⟩, rfl⟩) fit
  · obtain rfl := hc
    exact law_fitH (all := all) namesOk mixed (fun g => sums15_ok g) ran19 (fun g hg he => ⟨⟨fact_eq (decide_eq_true (told hg he.1)), trivial⟩, rfl⟩) fit
  · obtain rfl := hc
    exact law_fitH (all := all) namesOk mixed (fun g => sums15_ok g) ran20 (fun g hg he => ⟨⟨fact_eq (decide_eq_true (told hg he.1)), trivial⟩, rfl⟩) fit
  · obtain rfl := hc
    exact law_fitH (all := all) namesOk mixed (fun g => sums15_ok g) ran21 (fun g hg he => ⟨⟨fact_eq (decide_eq_true (told hg he.1)), trivial⟩, rfl⟩) fit
end Go.Proofs.Ytdleeeahonfnkaa.stateParts
