/- Steps of package thornton, reckoned. -/
import Derived.Test.YtfkeljolpcbbkaaRN

/- ThoT0 -/
namespace Go.Proofs.Ytfkeljolpcbbkaa
end Go.Proofs.Ytfkeljolpcbbkaa

/- ThoT1 -/
namespace Go.Proofs.Ytfkeljolpcbbkaa
end Go.Proofs.Ytfkeljolpcbbkaa

/- ThoT2 -/
namespace Go.Proofs.Ytfkeljolpcbbkaa
end Go.Proofs.Ytfkeljolpcbbkaa

/- ThoTab -/
namespace Go.Proofs.Ytfkeljolpcbbkaa
def sameL : List Int → List Int → Bool
  | [], [] => true
  | a :: l, b :: m => bif decide (a = b) then sameL l m else false
  | _, _ => false
theorem sameL_eq : ∀ {l m : List Int}, sameL l m = true → l = m
  | [], [], _ => rfl
  | a :: l, b :: m, h => by
    unfold sameL at h
    by_cases e : a = b
    · rw [decide_eq_true e, cond_true] at h
      rw [e, sameL_eq h]
    · rw [decide_eq_false e] at h; cases h
def findTab (l : List Int) : List (List Int × List Int × Bool) → Option (List Int × Bool)
  | [] => none
  | (x, r) :: t => bif sameL x l then some r else findTab l t
theorem findTab_ok {l : List Int} : ∀ {t : List (List Int × List Int × Bool)} {r : List Int × Bool}, (∀ e ∈ t, stepZ e.1 = e.2) → findTab l t = some r → stepZ l = r
  | [], _, _, h => by cases h
  | (x, s) :: t, r, ht, h => by
    unfold findTab at h
    cases e : sameL x l
    · rw [e, cond_false] at h
      exact findTab_ok (fun e he => ht e (List.mem_cons_of_mem _ he)) h
    · rw [e, cond_true] at h
      injection h with h
      have := ht (x, s) (List.mem_cons_self ..)
      rw [← sameL_eq e, ← h]; exact this
end Go.Proofs.Ytfkeljolpcbbkaa
