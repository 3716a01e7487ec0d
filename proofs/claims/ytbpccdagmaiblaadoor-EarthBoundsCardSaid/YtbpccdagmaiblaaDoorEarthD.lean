/- The cases of the laws of places: where a place lies, within what may be and beyond. -/
import Derived.Test.YtbpccdagmaiblaaDoorEarthT
namespace Go.Proofs.YtbpccdagmaiblaaDoor.SX
open Go Go.RowKit
noncomputable section
abbrev Fac := List (Bool × A × A × Bool)
/-- lo <= x n <= hi. -/
def inF (n : Nat) (lo hi : Int) : Fac := [(false, .x n, .k lo, false), (false, .k hi, .x n, false)]
def lowF (n : Nat) (lo : Int) : Fac := [(false, .x n, .k lo, true)]
def highF (n : Nat) (hi : Int) : Fac := [(false, .k hi, .x n, true)]
theorem fact_ge {g : Sg} {n : Nat} {lo : Int} (h : ciOk g (false, .x n, .k lo, false)) : lo ≤ g n := by
  have h : (!ile lo (g n)) = false := h
  rw [ile_iff] at h
  simpa using h
theorem fact_le {g : Sg} {n : Nat} {hi : Int} (h : ciOk g (false, .k hi, .x n, false)) : g n ≤ hi := by
  have h : (!ile (g n) hi) = false := h
  rw [ile_iff] at h
  simpa using h
theorem inF_ok {g : Sg} {n : Nat} {lo hi : Int} (h1 : lo ≤ g n) (h2 : g n ≤ hi) : FactsOk g (inF n lo hi) := ⟨fact_lt (decide_eq_false (by show ¬ g n < lo; omega)), fact_lt (decide_eq_false (by show ¬ hi < g n; omega)), trivial⟩
theorem lowF_ok {g : Sg} {n : Nat} {lo : Int} (h1 : g n < lo) : FactsOk g (lowF n lo) := ⟨fact_lt (decide_eq_true h1), trivial⟩
theorem highF_ok {g : Sg} {n : Nat} {hi : Int} (h1 : hi < g n) : FactsOk g (highF n hi) := ⟨fact_lt (decide_eq_true h1), trivial⟩
theorem facts_app {g : Sg} : ∀ {a b : Fac}, FactsOk g a → FactsOk g b → FactsOk g (a ++ b)
  | [], _, _, h => h
  | _ :: _, _, ⟨h1, h2⟩, h => ⟨h1, facts_app h2 h⟩
/-- The rows and columns of the table: the last are the edges. -/
def rowF (n : Nat) : Nat → Fac
  | 0 => inF n (-900000000) (-450000001)
  | 1 => inF n (-450000000) (-1)
  | 2 => inF n 0 449999999
  | 3 => inF n 450000000 899999999
  | _ => inF n 900000000 900000000
def colF (n : Nat) : Nat → Fac
  | 0 => inF n (-1800000000) (-1200000001)
  | 1 => inF n (-1200000000) (-600000001)
  | 2 => inF n (-600000000) (-1)
  | 3 => inF n 0 599999999
  | 4 => inF n 600000000 1199999999
  | 5 => inF n 1200000000 1799999999
  | _ => inF n 1800000000 1800000000
theorem rowF_ok {g : Sg} {n : Nat} (h1 : -900000000 ≤ g n) (h2 : g n ≤ 900000000) : ∃ r, r < 5 ∧ FactsOk g (rowF n r) := by
  by_cases k0 : g n ≤ -450000001
  · exact ⟨0, by decide, inF_ok h1 k0⟩
  by_cases k1 : g n ≤ -1
  · exact ⟨1, by decide, inF_ok (by omega) k1⟩
  by_cases k2 : g n ≤ 449999999
  · exact ⟨2, by decide, inF_ok (by omega) k2⟩
  by_cases k3 : g n ≤ 899999999
  · exact ⟨3, by decide, inF_ok (by omega) k3⟩
  · exact ⟨4, by decide, inF_ok (by omega) (by omega)⟩
theorem colF_ok {g : Sg} {n : Nat} (h1 : -1800000000 ≤ g n) (h2 : g n ≤ 1800000000) : ∃ r, r < 7 ∧ FactsOk g (colF n r) := by
  by_cases k0 : g n ≤ -1200000001
  · exact ⟨0, by decide, inF_ok h1 k0⟩
  by_cases k1 : g n ≤ -600000001
  · exact ⟨1, by decide, inF_ok (by omega) k1⟩
  by_cases k2 : g n ≤ -1
  · exact ⟨2, by decide, inF_ok (by omega) k2⟩
  by_cases k3 : g n ≤ 599999999
  · exact ⟨3, by decide, inF_ok (by omega) k3⟩
  by_cases k4 : g n ≤ 1199999999
  · exact ⟨4, by decide, inF_ok (by omega) k4⟩
  by_cases k5 : g n ≤ 1799999999
  · exact ⟨5, by decide, inF_ok (by omega) k5⟩
  · exact ⟨6, by decide, inF_ok (by omega) (by omega)⟩
/-- A place that may not be: its numbers are the n-th, the next, and the one behind. -/
def badF (n : Nat) : Nat → Fac
  | 0 => lowF n (-900000000)
  | 1 => highF n 900000000
  | 2 => inF n (-900000000) 900000000 ++ lowF (n + 1) (-1800000000)
  | 3 => inF n (-900000000) 900000000 ++ highF (n + 1) 1800000000
  | 4 => inF n (-900000000) 900000000 ++ (inF (n + 1) (-1800000000) 1800000000 ++ lowF (n + 2) (-100000000))
  | _ => inF n (-900000000) 900000000 ++ (inF (n + 1) (-1800000000) 1800000000 ++ highF (n + 2) 100000000)
def goodF (n : Nat) : Fac := inF n (-900000000) 900000000 ++ (inF (n + 1) (-1800000000) 1800000000 ++ inF (n + 2) (-100000000) 100000000)
theorem placeF {g : Sg} (n : Nat) : (∃ j, j < 6 ∧ FactsOk g (badF n j)) ∨ ((-900000000 ≤ g n ∧ g n ≤ 900000000) ∧ (-1800000000 ≤ g (n + 1) ∧ g (n + 1) ≤ 1800000000) ∧ (-100000000 ≤ g (n + 2) ∧ g (n + 2) ≤ 100000000)) := by
  by_cases k0 : g n < -900000000
  · exact .inl ⟨0, by decide, lowF_ok k0⟩
  by_cases k1 : 900000000 < g n
  · exact .inl ⟨1, by decide, highF_ok k1⟩
  have h := inF_ok (g := g) (n := n) (lo := -900000000) (hi := 900000000) (by omega) (by omega)
  by_cases k2 : g (n + 1) < -1800000000
  · exact .inl ⟨2, by decide, facts_app h (lowF_ok k2)⟩
  by_cases k3 : 1800000000 < g (n + 1)
  · exact .inl ⟨3, by decide, facts_app h (highF_ok k3)⟩
  have h' := inF_ok (g := g) (n := n + 1) (lo := -1800000000) (hi := 1800000000) (by omega) (by omega)
  by_cases k4 : g (n + 2) < -100000000
  · exact .inl ⟨4, by decide, facts_app h (facts_app h' (lowF_ok k4))⟩
  by_cases k5 : 100000000 < g (n + 2)
  · exact .inl ⟨5, by decide, facts_app h (facts_app h' (highF_ok k5))⟩
  · exact .inr ⟨⟨by omega, by omega⟩, ⟨by omega, by omega⟩, by omega, by omega⟩
/-- An origin that may not be. -/
def badO (n : Nat) : Nat → Fac
  | 6 => inF n (-900000000) (-850000001) ++ (inF (n + 1) (-1800000000) 1800000000 ++ inF (n + 2) (-100000000) 100000000)
  | 7 => inF n 850000001 900000000 ++ (inF (n + 1) (-1800000000) 1800000000 ++ inF (n + 2) (-100000000) 100000000)
  | j => badF n j
def goodO (n : Nat) : Fac := inF n (-850000000) 850000000 ++ (inF (n + 1) (-1800000000) 1800000000 ++ inF (n + 2) (-100000000) 100000000)
theorem originF {g : Sg} (n : Nat) : (∃ j, j < 8 ∧ FactsOk g (badO n j)) ∨ FactsOk g (goodO n) := by
  rcases placeF (g := g) n with ⟨j, hj, h⟩ | ⟨h1, h2, h3⟩
  · refine .inl ⟨j, by omega, ?_⟩
    match j, hj, h with
    | 0, _, h => exact h
    | 1, _, h => exact h
    | 2, _, h => exact h
    | 3, _, h => exact h
    | 4, _, h => exact h
    | 5, _, h => exact h
  · have e := facts_app (inF_ok h2.1 h2.2) (inF_ok h3.1 h3.2)
    by_cases k1 : g n < -850000000
    · exact .inl ⟨6, by decide, facts_app (inF_ok h1.1 (by omega)) e⟩
    by_cases k2 : 850000000 < g n
    · exact .inl ⟨7, by decide, facts_app (inF_ok (by omega) h1.2) e⟩
    · exact .inr (facts_app (inF_ok (by omega) (by omega)) e)
/-- Facts on the names from lo to hi hang on these alone. -/
def namesIn (lo hi : Nat) (l : Fac) : Bool := l.all fun c => atomIn c.2.1 && atomIn c.2.2.1
where atomIn : A → Bool
  | .k _ => true
  | .x n => Nat.ble lo n && Nat.ble n hi
theorem facts_cong {g h : Sg} {lo hi : Nat} (e : ∀ i, lo ≤ i ∧ i ≤ hi → h i = g i) : ∀ {l : Fac}, namesIn lo hi l = true → FactsOk g l → FactsOk h l
  | [], _, _ => trivial
  | c :: l, hn, ⟨h1, h2⟩ => by
    unfold namesIn at hn
    rw [List.all_cons, Bool.and_eq_true, Bool.and_eq_true] at hn
    obtain ⟨⟨n1, n2⟩, n3⟩ := hn
    have val : ∀ {a : A}, namesIn.atomIn lo hi a = true → a.val h = a.val g := fun {a} ha => by
      cases a with
      | k z => rfl
      | x n =>
        have ha : (Nat.ble lo n && Nat.ble n hi) = true := ha
        rw [Bool.and_eq_true, nble, nble, decide_eq_true_eq, decide_eq_true_eq] at ha
        exact e n ha
    refine ⟨?_, facts_cong e n3 h2⟩
    unfold ciOk at h1 ⊢
    rw [val n1, val n2]
    exact h1
theorem range_all {n : Nat} {p : Nat → Bool} (h : (List.range n).all p = true) {j : Nat} (hj : j < n) : p j = true := List.all_eq_true.1 h j (List.mem_range.2 hj)
end
end Go.Proofs.YtbpccdagmaiblaaDoor.SX
