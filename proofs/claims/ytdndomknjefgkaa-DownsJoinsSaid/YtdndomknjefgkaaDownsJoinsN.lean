/- What was taken since the last one was told: numbers. -/
import Derived.Test.YtdndomknjefgkaaDnP
import Derived.Test.YtdndomknjefgkaaDownsPlaysW
namespace Go.Proofs.Ytdndomknjefgkaa.Rg
open Go.RowKit
theorem getD_app_l {l m : List Sam} {j : Nat} (h : j < l.length) : (l ++ m).getD j [] = l.getD j [] := by
  rw [List.getD_eq_getElem?_getD, List.getD_eq_getElem?_getD, List.getElem?_append_left h]
theorem getD_app_r (l : List Sam) (y : Sam) : (l ++ [y]).getD l.length [] = y := by
  rw [List.getD_eq_getElem?_getD, List.getElem?_append_right (Nat.le_refl _)]; simp
theorem joinB_app {S : List Sam} (y : Sam) : ∀ n, n ≤ S.length → joinB (S ++ [y]) n = joinB S n
  | 0, _ => rfl
  | n + 1, h => by
    unfold joinB
    rw [joinB_app y n (by omega), getD_app_l (by omega)]
    by_cases e : n = 0
    · subst e; rfl
    · rw [getD_app_l (by omega)]
structure Sn (F : Nat → Int) (S : List Sam) (k : Nat) : Prop where
  len : S.length ≤ k
  nine : ∀ y ∈ S, y.length = 8
  good : joinB S S.length = true
  last : S ≠ [] → fn (S.getD (S.length - 1) []) 0 = F 1
  sum : ∀ j, 1 ≤ j → j < 8 → F (2 + j) = foldI (fun _ => 0) S j
theorem Sn.new (a : Int) : Sn (newS a) [] 0 := ⟨Nat.le_refl _, by simp, rfl, fun h => absurd rfl h, fun j h1 h2 => by
  unfold newS foldI; rw [if_neg (by omega), if_neg (by omega)]⟩
section
variable {F : Nat → Int} {S : List Sam} {k : Nat} (s : Sn F S k) {y : Sam}
include s
theorem Sn.skip (h : took F (fn y) = false) : Sn (nextF F (fn y)) S (k + 1) := by
  have e : nextF F (fn y) = F := by funext j; unfold nextF; rw [h]; rfl
  rw [e]
  exact ⟨by have := s.len; omega, s.nine, s.good, s.last, s.sum⟩
theorem Sn.join (h : took F (fn y) = true) : joinB (S ++ [y]) (S ++ [y]).length = true := by
  unfold took at h
  rw [Bool.and_eq_true, decide_eq_true_eq] at h
  rw [List.length_append, List.length_cons, List.length_nil]
  unfold joinB
  rw [joinB_app y _ (Nat.le_refl _), s.good, getD_app_r, h.1, Bool.true_and, Bool.true_and, Bool.or_eq_true]
  by_cases e : S.length = 0
  · left; rw [e]; rfl
  · right
    rw [getD_app_l (by omega), s.last (fun e2 => e (by rw [e2]; rfl)), decide_eq_true_eq]
    exact h.2
theorem Sn.whole : ∀ j, j < 8 → whole F (fn y) j = foldI (fun _ => 0) (S ++ [y]) j := fun j hj => by
  rw [foldI_snoc]
  unfold Rg.whole addI pend
  by_cases e : j = 0
  · rw [if_pos e, if_pos e]
  · rw [if_neg e, if_neg e, s.sum j (by omega) hj]
theorem Sn.stay (h : took F (fn y) = true) (hy : y.length = 8) (ht : told F (fn y) = false) : Sn (nextF F (fn y)) (S ++ [y]) (k + 1) := by
  refine ⟨by have := s.len; rw [List.length_append, List.length_cons, List.length_nil]; omega, fun z hz => ?_, s.join h, fun _ => ?_, fun j h1 h2 => ?_⟩
  · rcases List.mem_append.1 hz with h | h
    · exact s.nine z h
    · simp at h; subst h; exact hy
  · rw [List.length_append, List.length_cons, List.length_nil, Nat.zero_add, Nat.add_sub_cancel, getD_app_r]
    unfold nextF; rw [h]; rfl
  · rw [← s.whole j h2]
    unfold nextF
    rw [h, ht, if_pos rfl, if_neg (by omega), if_neg (by omega), Nat.add_sub_cancel_left]; rfl
theorem Sn.rows (h : took F (fn y) = true) (ht : told F (fn y) = true) : rowA 8 (joinR (S ++ [y])) = rowA 8 (toldR F (fn y)) ∧ joinE (S ++ [y]) = 0 := by
  have hc : joinB (S ++ [y]) (S ++ [y]).length = true ∧ (S ++ [y]).length ≠ 0 := ⟨s.join h, by simp⟩
  refine ⟨rowA_congr fun j hj => ?_, by unfold joinE; rw [if_pos hc]⟩
  unfold joinR toldR
  rw [if_pos hc, ht, if_pos rfl, s.whole j hj]
end
theorem sn_tell {F : Nat → Int} (k : Nat) {y : Sam} (h : took F (fn y) = true) (ht : told F (fn y) = true) : Sn (nextF F (fn y)) [] (k + 1) := by
  refine ⟨by simp, by simp, rfl, fun h => absurd rfl h, fun j h1 h2 => ?_⟩
  unfold nextF
  rw [h, ht, if_pos rfl, if_neg (by omega), if_neg (by omega)]
  rfl
theorem next3 (F i : Nat → Int) (h : took F i = true) : nextF F i 3 = if told F i = true then 0 else F 3 + i 1 := by
  unfold nextF
  rw [h, if_pos rfl, if_neg (by omega), if_neg (by omega)]
  rfl
theorem nextF_no {F i : Nat → Int} (h : took F i = false) : nextF F i = F := by funext j; unfold nextF; rw [h]; rfl
end Go.Proofs.Ytdndomknjefgkaa.Rg
