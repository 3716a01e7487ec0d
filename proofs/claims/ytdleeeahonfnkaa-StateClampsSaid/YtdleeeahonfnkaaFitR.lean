/- Arguments that are rows of whole numbers. -/
import Derived.Test.YtdleeeahonfnkaaSxI2
import Derived.Test.YtdleeeahonfnkaaRN
namespace Go.Proofs.Ytdleeeahonfnkaa
open Go.RowKit

theorem fit_list : ∀ (n : Nat) (us : List Value), SX.FitL (List.replicate n (some IntKind.i64)) us → ∃ l : List Int, l.length = n ∧ us = l.map (Value.int .i64) ∧ ∀ a ∈ l, -9223372036854775808 ≤ a ∧ a ≤ 9223372036854775807
  | 0, us, h => by
    cases us with
    | nil => exact ⟨[], rfl, rfl, fun _ h => by cases h⟩
    | cons _ _ => exact h.elim
  | n + 1, us, h => by
    cases us with
    | nil => exact h.elim
    | cons v us =>
      obtain ⟨h1, h2⟩ := h
      obtain ⟨l, rfl, rfl, hl⟩ := fit_list n us h2
      obtain ⟨a, rfl, ha⟩ := h1
      refine ⟨a :: l, rfl, rfl, fun b hb => ?_⟩
      rcases List.mem_cons.1 hb with rfl | hb
      · exact wf_i64 ha
      · exact hl b hb
theorem fit_row {n : Nat} {us : List Value} (h : SX.FitL (List.replicate n (some IntKind.i64)) us) : ∃ f : Nat → Int, (⟨us⟩ : Array Value) = rowA n f ∧ ∀ k, -9223372036854775808 ≤ f k ∧ f k ≤ 9223372036854775807 := by
  obtain ⟨l, rfl, rfl, hl⟩ := fit_list n us h
  refine ⟨fun k => l.getD k 0, rowA_of _ _ (by simp) (fun j hj => by simp [List.getD, hj]), fun k => ?_⟩
  show _ ≤ l.getD k 0 ∧ l.getD k 0 ≤ _
  by_cases hk : k < l.length
  · have e : l.getD k 0 = l[k] := by simp [List.getD, hk]
    rw [e]; exact hl _ (List.getElem_mem hk)
  · have e : l.getD k 0 = 0 := by simp [List.getD, hk]
    rw [e]; omega
end Go.Proofs.Ytdleeeahonfnkaa
