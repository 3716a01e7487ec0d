/- A sample cut in two: numbers. -/
import Derived.Test.YtdndomknjefgkaaDnM
namespace Go.Proofs.Ytdndomknjefgkaa.Rg
open Go.RowKit
/-- The first part when k of the three are done, and the second. -/
def fa (f q : Nat → Int) (cu : Int) (k j : Nat) : Int := if j = 0 then f 0 - cu else if j = 1 then cu else if j < 5 then (if j < 2 + k then (f j).tdiv 2 else f j) else (if j < 5 + k then (q (j - 5)).tmod 17179869184 else f j)
def fb (f q : Nat → Int) (cu : Int) (k j : Nat) : Int := if j = 0 then f 0 else if j = 1 then f 1 - cu else if j < 5 then (if j < 2 + k then f j - (f j).tdiv 2 else f j) else (if j < 5 + k then f j - (q (j - 5)).tmod 17179869184 else f j)
theorem fab (f q : Nat → Int) (cu : Int) (j : Nat) (h1 : 1 ≤ j) (h2 : j < 8) : fa f q cu 3 j + fb f q cu 3 j = f j :=
  match j, h1, h2 with
  | 1, _, _ => by
    show cu + (f 1 - cu) = f 1
    omega
  | 2, _, _ => by
    show (f 2).tdiv 2 + (f 2 - (f 2).tdiv 2) = f 2
    generalize (f 2).tdiv 2 = x
    omega
  | 3, _, _ => by
    show (f 3).tdiv 2 + (f 3 - (f 3).tdiv 2) = f 3
    generalize (f 3).tdiv 2 = x
    omega
  | 4, _, _ => by
    show (f 4).tdiv 2 + (f 4 - (f 4).tdiv 2) = f 4
    generalize (f 4).tdiv 2 = x
    omega
  | 5, _, _ => by
    show (q 0).tmod 17179869184 + (f 5 - (q 0).tmod 17179869184) = f 5
    generalize (q 0).tmod 17179869184 = x
    omega
  | 6, _, _ => by
    show (q 1).tmod 17179869184 + (f 6 - (q 1).tmod 17179869184) = f 6
    generalize (q 1).tmod 17179869184 = x
    omega
  | 7, _, _ => by
    show (q 2).tmod 17179869184 + (f 7 - (q 2).tmod 17179869184) = f 7
    generalize (q 2).tmod 17179869184 = x
    omega
theorem fa0 (f q : Nat → Int) (cu : Int) : ∀ j, j < 8 → upd (upd f 0 (f 0 - cu)) 1 cu j = fa f q cu 0 j := fun j hj => by
  match j, hj with
  | 0, _ | 1, _ | 2, _ | 3, _ | 4, _ | 5, _ | 6, _ | 7, _ => rfl
theorem fb0 (f q : Nat → Int) (cu : Int) : ∀ j, j < 8 → upd f 1 (f 1 - cu) j = fb f q cu 0 j := fun j hj => by
  match j, hj with
  | 0, _ | 1, _ | 2, _ | 3, _ | 4, _ | 5, _ | 6, _ | 7, _ => rfl
theorem fa_next (f q : Nat → Int) (cu : Int) {k : Nat} (hk : k < 3) : ∀ j, j < 8 → upd (upd (fa f q cu k) (5 + k) ((q k).tmod 17179869184)) (2 + k) ((f (2 + k)).tdiv 2) j = fa f q cu (k + 1) j := fun j hj => by
  match k, hk with
  | 0, _ | 1, _ | 2, _ =>
    match j, hj with
    | 0, _ | 1, _ | 2, _ | 3, _ | 4, _ | 5, _ | 6, _ | 7, _ => rfl
theorem fb_next (f q : Nat → Int) (cu : Int) {k : Nat} (hk : k < 3) : ∀ j, j < 8 → upd (upd (fb f q cu k) (5 + k) (f (5 + k) - (q k).tmod 17179869184)) (2 + k) (f (2 + k) - (f (2 + k)).tdiv 2) j = fb f q cu (k + 1) j := fun j hj => by
  match k, hk with
  | 0, _ | 1, _ | 2, _ =>
    match j, hj with
    | 0, _ | 1, _ | 2, _ | 3, _ | 4, _ | 5, _ | 6, _ | 7, _ => rfl
theorem whole_new (a : Int) (f : Nat → Int) (j : Nat) : whole (newS a) f j = f j := by
  unfold whole addI pend newS
  by_cases e : j = 0
  · subst e; rfl
  · rw [if_neg e, if_neg (by omega), if_neg (by omega)]; omega
structure Cut2 (a : Int) (f q : Nat → Int) (cu : Int) : Prop where
  okf : okI f = true
  ge : 1000 ≤ a
  c1 : 1 ≤ cu
  c2 : cu < f 1
  c3 : cu < a
  tt : f 1 ≤ f 0
  oka : okI (fa f q cu 3) = true
  okb : okI (fb f q cu 3) = true
section
variable {a : Int} {f q : Nat → Int} {cu : Int} (h : Cut2 a f q cu)
include h
theorem Cut2.tookF : took (newS a) f = true := by
  unfold took
  have := (okI_bd h.okf).2.1
  rw [h.okf, decide_eq_true (by unfold newS; simp; omega)]; rfl
theorem Cut2.toldA : told (newS a) (fa f q cu 3) = false := by
  unfold told
  have e : whole (newS a) (fa f q cu 3) 1 = cu := by
    unfold whole addI pend newS fa; simp
  rw [e, decide_eq_false (by have := h.c3; unfold newS; simp; omega), Bool.and_false]
theorem Cut2.tookA : took (newS a) (fa f q cu 3) = true := by
  unfold took
  have := (okI_bd h.oka).2.1
  rw [h.oka, decide_eq_true (by unfold newS; simp; omega)]; rfl
theorem Cut2.next1 : ∀ j, nextF (newS a) (fa f q cu 3) j = if j = 0 then a else if j = 1 then f 0 - cu else whole (newS a) (fa f q cu 3) (j - 2) := fun j => by
  unfold nextF
  rw [h.tookA, h.toldA, if_pos rfl]
  rfl
theorem Cut2.tookB : took (nextF (newS a) (fa f q cu 3)) (fb f q cu 3) = true := by
  unfold took
  rw [h.okb, h.next1, if_neg (by omega), if_pos rfl, decide_eq_true (by have := h.c1; unfold fb; simp; omega)]; rfl
theorem Cut2.wholeB : ∀ j, j < 8 → whole (nextF (newS a) (fa f q cu 3)) (fb f q cu 3) j = f j := fun j hj => by
  unfold whole addI
  by_cases e : j = 0
  · subst e; rfl
  · rw [if_neg e]
    unfold pend
    rw [h.next1, if_neg (by omega), if_neg (by omega), Nat.add_sub_cancel_left]
    unfold whole addI pend newS
    rw [if_neg e, if_neg (by omega), if_neg (by omega)]
    have := fab f q cu j (by omega) hj
    omega
theorem Cut2.toldB : told (nextF (newS a) (fa f q cu 3)) (fb f q cu 3) = told (newS a) f := by
  unfold told
  rw [h.tookB, h.tookF, h.wholeB 1 (by omega), whole_new a f 1, h.next1, if_pos rfl]
  rfl
theorem Cut2.rows : rowA 8 (toldR (nextF (newS a) (fa f q cu 3)) (fb f q cu 3)) = rowA 8 (toldR (newS a) f) := rowA_congr fun j hj => by
  unfold toldR
  rw [h.toldB, h.wholeB j hj, whole_new a f j]
theorem Cut2.pends : nextF (nextF (newS a) (fa f q cu 3)) (fb f q cu 3) 3 = nextF (newS a) f 3 := by
  have e1 : ∀ F i : Nat → Int, took F i = true → nextF F i 3 = if told F i = true then 0 else whole F i 1 := fun F i ht => by
    unfold nextF; rw [ht, if_pos rfl, if_neg (by omega), if_neg (by omega)]
  rw [e1 _ _ h.tookB, e1 _ _ h.tookF, h.toldB, h.wholeB 1 (by omega), whole_new a f 1]
end
end Go.Proofs.Ytdndomknjefgkaa.Rg
