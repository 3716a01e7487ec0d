/- Steps of package thornton, reckoned. -/
import Derived.Test.YtadeadpcpgfkbaaRN

/- ThoT0 -/
namespace Go.Proofs.Ytadeadpcpgfkbaa
def tabX0 : List Int := List.replicate 276 (0) ++ ([17592186044416] ++ (List.replicate 23 (1) ++ ([1073741824] ++ (List.replicate 24 (0) ++ ([1073741824] ++ (List.replicate 24 (0) ++ ([1073741824] ++ (List.replicate 24 (0) ++ ([1073741824] ++ (List.replicate 24 (0) ++ ([1073741824] ++ (List.replicate 24 (0) ++ ([1073741824] ++ (List.replicate 24 (0) ++ ([1073741824] ++ (List.replicate 24 (0) ++ ([1073741824] ++ (List.replicate 24 (0) ++ ([1073741824] ++ (List.replicate 24 (0) ++ ([1073741824] ++ (List.replicate 24 (0) ++ ([1073741824] ++ (List.replicate 24 (0) ++ ([1073741824] ++ (List.replicate 24 (0) ++ ([1073741824] ++ (List.replicate 24 (0) ++ ([1073741824] ++ (List.replicate 24 (0) ++ ([1073741824] ++ (List.replicate 24 (0) ++ ([1073741824] ++ (List.replicate 24 (0) ++ ([1073741824] ++ (List.replicate 24 (0) ++ ([1073741824] ++ (List.replicate 24 (0) ++ ([1073741824] ++ (List.replicate 24 (0) ++ ([1073741824] ++ (List.replicate 24 (0) ++ ([1073741824] ++ (List.replicate 24 (0) ++ ([1073741824] ++ (List.replicate 24 (0) ++ ([1073741824] ++ (List.replicate 24 (0) ++ ([1073741824] ++ (List.replicate 2 (1) ++ (List.replicate 22 (0))))))))))))))))))))))))))))))))))))))))))))))))))))
def tabR0 : List Int := List.replicate 276 (0) ++ ([17592186044417] ++ ([2] ++ (List.replicate 22 (1))))
set_option maxRecDepth 1000000 in
theorem tab0_ok : stepZ tabX0 = (tabR0, false) := by kernel_rfl
end Go.Proofs.Ytadeadpcpgfkbaa

/- ThoT1 -/
namespace Go.Proofs.Ytadeadpcpgfkbaa
def tabX1 : List Int := List.replicate 276 (0) ++ ([17592186044417] ++ ([2] ++ (List.replicate 22 (1) ++ ([1073741824] ++ (List.replicate 24 (0) ++ ([1073741824] ++ (List.replicate 24 (0) ++ ([1073741824] ++ (List.replicate 24 (0) ++ ([1073741824] ++ (List.replicate 24 (0) ++ ([1073741824] ++ (List.replicate 24 (0) ++ ([1073741824] ++ (List.replicate 24 (0) ++ ([1073741824] ++ (List.replicate 24 (0) ++ ([1073741824] ++ (List.replicate 24 (0) ++ ([1073741824] ++ (List.replicate 24 (0) ++ ([1073741824] ++ (List.replicate 24 (0) ++ ([1073741824] ++ (List.replicate 24 (0) ++ ([1073741824] ++ (List.replicate 24 (0) ++ ([1073741824] ++ (List.replicate 24 (0) ++ ([1073741824] ++ (List.replicate 24 (0) ++ ([1073741824] ++ (List.replicate 24 (0) ++ ([1073741824] ++ (List.replicate 24 (0) ++ ([1073741824] ++ (List.replicate 24 (0) ++ ([1073741824] ++ (List.replicate 24 (0) ++ ([1073741824] ++ (List.replicate 24 (0) ++ ([1073741824] ++ (List.replicate 24 (0) ++ ([1073741824] ++ (List.replicate 24 (0) ++ ([1073741824] ++ (List.replicate 24 (0) ++ ([1073741824] ++ (List.replicate 24 (0) ++ ([1073741824] ++ (List.replicate 24 (0))))))))))))))))))))))))))))))))))))))))))))))))))))
def tabR1 : List Int := List.replicate 276 (0) ++ ([17592186044417] ++ ([2] ++ (List.replicate 22 (1))))
set_option maxRecDepth 1000000 in
theorem tab1_ok : stepZ tabX1 = (tabR1, false) := by kernel_rfl
end Go.Proofs.Ytadeadpcpgfkbaa

/- ThoT2 -/
namespace Go.Proofs.Ytadeadpcpgfkbaa
def tabX2 : List Int := List.replicate 276 (0) ++ (List.replicate 2 (17592186044416) ++ (List.replicate 22 (1) ++ (List.replicate 2 (1073741824) ++ (List.replicate 23 (0) ++ ([1073741824] ++ (List.replicate 24 (0) ++ ([1073741824] ++ (List.replicate 24 (0) ++ ([1073741824] ++ (List.replicate 24 (0) ++ ([1073741824] ++ (List.replicate 24 (0) ++ ([1073741824] ++ (List.replicate 24 (0) ++ ([1073741824] ++ (List.replicate 24 (0) ++ ([1073741824] ++ (List.replicate 24 (0) ++ ([1073741824] ++ (List.replicate 24 (0) ++ ([1073741824] ++ (List.replicate 24 (0) ++ ([1073741824] ++ (List.replicate 24 (0) ++ ([1073741824] ++ (List.replicate 24 (0) ++ ([1073741824] ++ (List.replicate 24 (0) ++ ([1073741824] ++ (List.replicate 24 (0) ++ ([1073741824] ++ (List.replicate 24 (0) ++ ([1073741824] ++ (List.replicate 24 (0) ++ ([1073741824] ++ (List.replicate 24 (0) ++ ([1073741824] ++ (List.replicate 24 (0) ++ ([1073741824] ++ (List.replicate 24 (0) ++ ([1073741824] ++ (List.replicate 24 (0) ++ ([1073741824] ++ (List.replicate 24 (0) ++ ([1073741824] ++ (List.replicate 24 (0) ++ ([1073741824] ++ (List.replicate 24 (0) ++ ([1073741824] ++ (List.replicate 24 (0)))))))))))))))))))))))))))))))))))))))))))))))))))
def tabR2 : List Int := [1073741824] ++ (List.replicate 275 (0) ++ (List.replicate 2 (17592186044416) ++ (List.replicate 22 (1))))
set_option maxRecDepth 1000000 in
theorem tab2_ok : stepZ tabX2 = (tabR2, false) := by kernel_rfl
end Go.Proofs.Ytadeadpcpgfkbaa

/- ThoTab -/
namespace Go.Proofs.Ytadeadpcpgfkbaa
def sameL : List Int → List Int → Bool
  | [], [] => true
  | a :: l, b :: m => bif decide (a = b) then sameL l m else false
  | _, _ => false
theorem sameL_eq : ∀ {l m : List Int}, sameL l m = true → l = m
  | [], [], _ => rfl
  | a :: l, b :: m, h => by
    unfold sameL at h
    by_cases e : a = b
    · rw [decide_eq_true e, cond_true] at h
      rw [e, sameL_eq h]
    · rw [decide_eq_false e] at h; cases h
def stepTab : List (List Int × List Int × Bool) := [(tabX0, tabR0, false), (tabX1, tabR1, false), (tabX2, tabR2, false)]
theorem stepTab_ok : ∀ e ∈ stepTab, stepZ e.1 = e.2 := by
  intro e he
  simp only [stepTab, List.mem_cons, List.not_mem_nil, or_false] at he
  rcases he with rfl | rfl | rfl
  · exact tab0_ok
  · exact tab1_ok
  · exact tab2_ok
def findTab (l : List Int) : List (List Int × List Int × Bool) → Option (List Int × Bool)
  | [] => none
  | (x, r) :: t => bif sameL x l then some r else findTab l t
theorem findTab_ok {l : List Int} : ∀ {t : List (List Int × List Int × Bool)} {r : List Int × Bool}, (∀ e ∈ t, stepZ e.1 = e.2) → findTab l t = some r → stepZ l = r
  | [], _, _, h => by cases h
  | (x, s) :: t, r, ht, h => by
    unfold findTab at h
    cases e : sameL x l
    · rw [e, cond_false] at h
      exact findTab_ok (fun e he => ht e (List.mem_cons_of_mem _ he)) h
    · rw [e, cond_true] at h
      injection h with h
      have := ht (x, s) (List.mem_cons_self ..)
      rw [← sameL_eq e, ← h]; exact this
end Go.Proofs.Ytadeadpcpgfkbaa
