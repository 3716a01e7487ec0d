/- A place carried on by its velocity: the rows, round by round. Nothing of a program is used. -/
import Derived.Test.YtadeadpcpgfkbaaErrM
namespace Go.Proofs.Ytadeadpcpgfkbaa.EA
open Go.RowKit

theorem quo_is {v d : Int} (hd : 1 ≤ d ∧ d ≤ 72057594037927936) (hv : -72057594037927936 ≤ v ∧ v ≤ 72057594037927936) (hb : -(288230376151711744 * d) ≤ 1073741824 * v ∧ 1073741824 * v ≤ 288230376151711744 * d) :
    quoh v d = false ∧ -d ≤ 2 * (quov v d * d - 1073741824 * v) ∧ 2 * (quov v d * d - 1073741824 * v) ≤ d := by
  have s1 := satv_in (a := v) (by omega) (by omega)
  have s2 := satv_in (a := d) (by omega) (by omega)
  have hz := divZ_near (v := v * 2 ^ 30) (d := d) hd.1
  have hq : -576460752303423488 ≤ divZ (v * 2 ^ 30) d ∧ divZ (v * 2 ^ 30) d ≤ 576460752303423488 := by
    generalize divZ (v * 2 ^ 30) d = q at *
    constructor
    · rcases (show q ≤ -576460752303423489 ∨ -576460752303423488 ≤ q by omega) with h | h
      · exfalso
        have : q * d ≤ -576460752303423489 * d := Int.mul_le_mul_of_nonneg_right h (by omega)
        omega
      · exact h
    · rcases (show 576460752303423489 ≤ q ∨ q ≤ 576460752303423488 by omega) with h | h
      · exfalso
        have : 576460752303423489 * d ≤ q * d := Int.mul_le_mul_of_nonneg_right h (by omega)
        omega
      · exact h
  have s3 := satv_in (a := divZ (v * 2 ^ 30) d) (by omega) (by omega)
  unfold quoh quov divh divv
  rw [s1.1, s1.2, s2.1, s2.2, if_neg (by omega), if_neg (by omega), s3.1, s3.2]
  exact ⟨rfl, by omega, by omega⟩
theorem sumQ_two {xs ys : Nat → Int} {c1 c2 : Nat} (h12 : c1 < c2) : ∀ {n : Nat}, c2 < n → (∀ k, k < n → k ≠ c1 → k ≠ c2 → xs k = 0 ∨ ys k = 0) → sumP xs ys n = satv (xs c1) * satv (ys c1) + satv (xs c2) * satv (ys c2)
  | 0, h, _ => by omega
  | n + 1, h, hz => by
    rw [sumP]
    by_cases e : c2 = n
    · subst e
      rw [sumQ_one h12 (fun k hk hc => hz k (by omega) hc (by omega))]
    · rw [sumQ_two h12 (n := n) (by omega) (fun k hk a b => hz k (by omega) a b)]
      rcases hz n (by omega) (by omega) (by omega) with e2 | e2
      · rw [e2, satv_zero, Int.zero_mul, Int.add_zero]
      · rw [e2, satv_zero, Int.mul_zero, Int.add_zero]
section
variable {W e : Nat → Int}
theorem idle_dot {j i : Nat} (h : ∀ c, c < 48 → W (48 * i + c) = 0 ∨ yF W e j c = 0) : dotv (rowJ W i) (yF W e j) 48 = 0 := dotv_none h
theorem any_no {xs ys : Nat → Int} {n : Nat} (hx : ∀ c, c < n → sath (xs c) = false) (hy : ∀ c, c < n → sath (ys c) = false) : anyP xs ys n = false := by
  cases h : anyP xs ys n
  · rfl
  · obtain ⟨k, hk, hy2⟩ := anyP_iff.1 h
    rw [hx k hk, hy k hk] at hy2
    cases hy2
theorem anyN_no {f : Nat → Bool} {n : Nat} (h : ∀ k, k < n → f k = false) : anyN f n = false := by
  cases hh : anyN f n
  · rfl
  · obtain ⟨k, hk, h2⟩ := anyN_iff.1 hh
    rw [h k hk] at h2; cases h2
theorem idle_u {j i : Nat} (h : ∀ c, c < 48 → W (48 * i + c) = 0 ∨ yF W e j c = 0) : uS W e j i = 0 := by
  unfold uS; rw [idle_dot h]; exact quov_zero (dF_in W e j)
theorem idle_uh {j i : Nat} (h : ∀ c, c < 48 → W (48 * i + c) = 0 ∨ yF W e j c = 0) (hx : ∀ c, c < 48 → sath (W (48 * i + c)) = false) (hy : ∀ c, c < 48 → sath (yF W e j c) = false) : uSH W e j i = false := by
  have hd := dF_in W e j
  unfold uSH
  rw [idle_dot h, (quo_is hd (by omega) (by omega)).1]
  unfold doth
  rw [any_no (xs := rowJ W i) hx hy, sumQ_none (xs := rowJ W i) h, rnd_zero]; rfl
theorem nexH_no {j : Nat} : ∀ {t : Nat}, t ≤ j → (∀ i, i < t → uSH W e j i = false ∧ ∀ k, k < 48 → mulh (uS W e j i) (W (48 * j + k)) = false ∧ subh (W (48 * i + k)) (mulv (uS W e j i) (W (48 * j + k))) = false) → nexH W e j t = false
  | 0, _, _ => rfl
  | t + 1, ht, h => by
    rw [nexH, nexH_no (by omega) (fun i hi => h i (by omega)), (h t (by omega)).1, Bool.false_or, Bool.false_or]
    refine anyN_no fun k hk => ?_
    obtain ⟨h1, h2⟩ := (h t (by omega)).2 k hk
    unfold takH
    rw [nexW_other (by omega), nexW_other (by omega), h1, h2]; rfl
theorem mulh_zero_l {b : Int} (h : sath b = false) : mulh 0 b = false := by
  unfold mulh; rw [h, satv_zero, Int.zero_mul, rnd_zero]; rfl
theorem subh_zero_r {b : Int} (h : sath b = false) : subh b 0 = false := by
  have := satv_lo b
  have := satv_hi b
  unfold subh; rw [h, satv_zero, Int.sub_zero, (satv_in (a := satv b) (by omega) (by omega)).2]; rfl
/-- The rows: those of One, but for the place's that has dt, and for the velocity's that a round changes. -/
def mvR (dt x4 x7 : Int) (i c : Nat) : Int := if c = i then (if i = 4 then x4 else 1073741824) else if c = 24 + i then 1073741824 else if i = 7 ∧ c = 4 then dt else if i = 4 ∧ (c = 7 ∨ c = 31) then x7 else 0
theorem mvR_none {dt x4 x7 : Int} {i c : Nat} (h1 : c ≠ i) (h2 : c ≠ 24 + i) (h3 : ¬ (i = 7 ∧ c = 4)) (h4 : ¬ (i = 4 ∧ (c = 7 ∨ c = 31))) : mvR dt x4 x7 i c = 0 := by
  unfold mvR; rw [if_neg h1, if_neg h2, if_neg h3, if_neg h4]
structure Mv (W e : Nat → Int) (a b dt x4 x7 : Int) : Prop where
  w : ∀ i c, i < 24 → c < 48 → W (48 * i + c) = mvR dt x4 x7 i c
  e : ∀ c, c < 48 → e c = if c = 4 then a else if c = 7 then b else if c < 24 then 1 else 0
  a : 1073741824 ≤ a ∧ a ≤ 281474976710656
  b : 1073741824 ≤ b ∧ b ≤ 281474976710656
  t : 0 ≤ dt ∧ dt ≤ 1073741824
  x4 : -2 ≤ x4 ∧ x4 ≤ 1073741824
  x7 : -549755813888 ≤ x7 ∧ x7 ≤ 0
variable {a b dt x4 x7 : Int}
theorem Mv.bd (m : Mv W e a b dt x4 x7) {i c : Nat} (hi : i < 24) (hc : c < 48) : -549755813888 ≤ W (48 * i + c) ∧ W (48 * i + c) ≤ 1073741824 := by
  have h1 := m.t
  have h2 := m.x4
  have h3 := m.x7
  rw [m.w i c hi hc]
  unfold mvR
  (repeat' split) <;> omega
theorem Mv.ebd (m : Mv W e a b dt x4 x7) {c : Nat} (hc : c < 48) : 0 ≤ e c ∧ e c ≤ 281474976710656 := by
  have h1 := m.a
  have h2 := m.b
  rw [m.e c hc]
  (repeat' split) <;> omega
theorem Mv.sat (m : Mv W e a b dt x4 x7) {i c : Nat} (hi : i < 24) (hc : c < 48) : satv (W (48 * i + c)) = W (48 * i + c) ∧ sath (W (48 * i + c)) = false := by
  have := m.bd hi hc
  exact satv_in (by omega) (by omega)
/-- A row's number times what stands behind it. -/
theorem Mv.y (m : Mv W e a b dt x4 x7) {j c : Nat} (hj : j < 24) (hc : c < 48) : yH W e j c = false ∧ (-536870912 ≤ 1073741824 * yF W e j c - W (48 * j + c) * e c ∧ 1073741824 * yF W e j c - W (48 * j + c) * e c ≤ 536870912) ∧ satv (yF W e j c) = yF W e j c ∧ sath (yF W e j c) = false := by
  have h1 := m.bd hj hc
  have h2 := m.ebd hc
  have h3 := mul_bd (a := W (48 * j + c)) (b := e c) (A := 549755813888) (B := 281474976710656) (by omega) (by omega)
  obtain ⟨m1, m2, m3, m4, m5⟩ := mulv_near (a := W (48 * j + c)) (b := e c) (by omega) (by omega) (by omega)
  exact ⟨m1, ⟨m2, m3⟩, satv_in m4 m5⟩
theorem Mv.y0 (m : Mv W e a b dt x4 x7) {j c : Nat} (hj : j < 24) (hc : c < 48) (h : c ≠ j) (h7 : ¬ (j = 7 ∧ c = 4)) (h4 : ¬ (j = 4 ∧ c = 7)) : yF W e j c = 0 := by
  unfold yF
  by_cases h1 : c < 24
  · rw [m.w j c hj hc, mvR_none h (by omega) h7 (by omega)]; exact mulv_zero_l _
  · rw [m.e c hc, if_neg (by omega), if_neg (by omega), if_neg h1]; exact mulv_zero_r _
/-- Where a round finds nothing in common. -/
theorem Mv.no (m : Mv W e a b dt x4 x7) {j i : Nat} (hj : j < 24) (hij : i < j) (h : j = 7 → i ≠ 4) : ∀ c, c < 48 → W (48 * i + c) = 0 ∨ yF W e j c = 0 := fun c hc => by
  by_cases h1 : c = j ∨ (j = 7 ∧ c = 4) ∨ (j = 4 ∧ c = 7)
  · left
    rw [m.w i c (by omega) hc]
    exact mvR_none (by omega) (by omega) (by omega) (by omega)
  · right
    exact m.y0 hj hc (by omega) (by omega) (by omega)
theorem Mv.idle (m : Mv W e a b dt x4 x7) {j i : Nat} (hj : j < 24) (hij : i < j) (h : j = 7 → i ≠ 4) :
    uS W e j i = 0 ∧ uSH W e j i = false ∧ ∀ k, k < 48 → mulh (uS W e j i) (W (48 * j + k)) = false ∧ subh (W (48 * i + k)) (mulv (uS W e j i) (W (48 * j + k))) = false := by
  have hn := m.no hj hij h
  have hu := idle_u hn
  refine ⟨hu, idle_uh hn (fun c hc => (m.sat (by omega) hc).2) (fun c hc => (m.y hj hc).2.2.2), fun k hk => ?_⟩
  rw [hu, mulv_zero_l]
  exact ⟨mulh_zero_l (m.sat hj hk).2, subh_zero_r (m.sat (by omega) hk).2⟩
/-- A round that changes no row. -/
theorem Mv.same (m : Mv W e a b dt x4 x7) {j : Nat} (hj : j < 24) (h : j ≠ 7) : Mv (nexW W e j j) e a b dt x4 x7 ∧ nexH W e j j = false := by
  refine ⟨⟨fun i c hi hc => ?_, m.e, m.a, m.b, m.t, m.x4, m.x7⟩, nexH_no (Nat.le_refl _) fun i hi => (m.idle hj hi (fun x => absurd x h)).2⟩
  by_cases hij : i < j
  · rw [nexW_at hc hij hij (Nat.le_refl _), (m.idle hj hij (fun x => absurd x h)).1, mulv_zero_l, subv_zero_r, (m.sat hi hc).1]
    exact m.w i c hi hc
  · rw [nexW_other (by omega)]; exact m.w i c hi hc
/-- A row that stands for itself alone. -/
theorem Mv.plain (m : Mv W e a b dt x4 x7) {j : Nat} (hj : j < 24) (h7 : j ≠ 7) (h4 : j ≠ 4) : dF W e j = 1 ∧ dH W e j = false := by
  have hy : yF W e j j = 1 := by
    unfold yF
    rw [m.w j j hj (by omega), m.e j (by omega), if_neg h4, if_neg h7, if_pos hj]
    unfold mvR
    rw [if_pos rfl, if_neg h4]; rfl
  have hw : rowJ W j j = 1073741824 := by
    unfold rowJ
    rw [m.w j j hj (by omega)]
    unfold mvR
    rw [if_pos rfl, if_neg h4]
  have hs : sumP (rowJ W j) (yF W e j) 48 = 1073741824 := by
    rw [sumQ_one (c := j) (by omega) (fun k hk hne => .inr (m.y0 hj hk hne (by omega) (by omega))), hy, hw]; rfl
  have ha : anyP (rowJ W j) (yF W e j) 48 = false := any_no (fun c hc => (m.sat hj hc).2) (fun c hc => (m.y hj hc).2.2.2)
  have hn : anyN (yH W e j) 48 = false := anyN_no fun c hc => (m.y hj hc).1
  unfold dF dH dotv doth
  rw [hs, ha, hn]
  exact ⟨rfl, rfl⟩
end
end Go.Proofs.Ytadeadpcpgfkbaa.EA
