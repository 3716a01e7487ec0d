/- A place carried on by its velocity: the two rounds that find something. Nothing of a program is used. -/
import Derived.Test.YtadeadpcpgfkbaaErrN
namespace Go.Proofs.Ytadeadpcpgfkbaa.EA
open Go.RowKit

theorem subv_is {x m : Int} (hx : -1125899906842624 ≤ x ∧ x ≤ 1125899906842624) (hm : -1125899906842624 ≤ m ∧ m ≤ 1125899906842624) : subh x m = false ∧ subv x m = x - m := by
  have s1 := satv_in (a := x) (by omega) (by omega)
  have s2 := satv_in (a := m) (by omega) (by omega)
  have s3 := satv_in (a := x - m) (by omega) (by omega)
  unfold subh subv
  rw [s1.1, s1.2, s2.1, s2.2, s3.1, s3.2]
  exact ⟨rfl, rfl⟩
/-- What the first of the two gives. -/
structure Mq (a b dt m s u v : Int) : Prop where
  ha : 1073741824 ≤ a ∧ a ≤ 281474976710656
  hb : 1073741824 ≤ b ∧ b ≤ 281474976710656
  ht : 0 ≤ dt ∧ dt ≤ 1073741824
  hm : 0 ≤ m ∧ m ≤ a
  hs : 0 ≤ s ∧ s ≤ a
  mm : -536870912 ≤ 1073741824 * m - dt * a ∧ 1073741824 * m - dt * a ≤ 536870912
  ss : -536870912 ≤ 1073741824 * s - dt * m ∧ 1073741824 * s - dt * m ≤ 536870912
  uu : -(b + s) ≤ 2 * (u * (b + s) - 1073741824 * m) ∧ 2 * (u * (b + s) - 1073741824 * m) ≤ b + s
  hu : 0 ≤ u ∧ u ≤ 549755813888
  vv : -536870912 ≤ 1073741824 * v - u * dt ∧ 1073741824 * v - u * dt ≤ 536870912
  hv : 0 ≤ v ∧ v ≤ 1073741826
theorem v_le {b dt m s u v : Int} (hb : 1073741824 ≤ b) (ht : 0 ≤ dt ∧ dt ≤ 1073741824) (hs0 : 0 ≤ s)
    (ss : dt * m ≤ 1073741824 * s + 536870912) (uu : 2 * (u * (b + s) - 1073741824 * m) ≤ b + s) (vv : 1073741824 * v - u * dt ≤ 536870912) : v ≤ 1073741826 := by
  rcases (show 1073741827 ≤ v ∨ v ≤ 1073741826 by omega) with h | h
  · exfalso
    have h1 : 1152921507291201536 ≤ u * dt := by omega
    have h2 : 1152921507291201536 * (b + s) ≤ u * dt * (b + s) := Int.mul_le_mul_of_nonneg_right h1 (by omega)
    have h3 : dt * (2 * (u * (b + s) - 1073741824 * m)) ≤ dt * (b + s) := Int.mul_le_mul_of_nonneg_left uu ht.1
    have h4 : dt * (b + s) ≤ 1073741824 * (b + s) := Int.mul_le_mul_of_nonneg_right ht.2 (by omega)
    have e1 : dt * (2 * (u * (b + s) - 1073741824 * m)) = 2 * (u * dt * (b + s)) - 2147483648 * (dt * m) := by grind
    rw [e1] at h3
    generalize u * dt * (b + s) = p at *
    generalize dt * (b + s) = q at *
    generalize dt * m = r at *
    omega
  · exact h
/-- Nothing is clamped where a part of the row j is taken off the row i. -/
theorem Mv.take {W e : Nat → Int} {a b dt x4 x7 : Int} (m : Mv W e a b dt x4 x7) {i j k : Nat} {u : Int} (hi : i < 24) (hj : j < 24) (hk : k < 48) (hu : -1099511627776 ≤ u ∧ u ≤ 1099511627776) (h2 : -1073741824 ≤ W (48 * j + k)) :
    mulh u (W (48 * j + k)) = false ∧ subh (W (48 * i + k)) (mulv u (W (48 * j + k))) = false ∧ subv (W (48 * i + k)) (mulv u (W (48 * j + k))) = W (48 * i + k) - mulv u (W (48 * j + k)) := by
  have b1 := m.bd hi hk
  have b2 := m.bd hj hk
  have h3 := mul_bd (a := u) (b := W (48 * j + k)) (A := 1099511627776) (B := 1073741824) hu (by omega)
  obtain ⟨m1, m2, m3, m4, m5⟩ := mulv_near (a := u) (b := W (48 * j + k)) (by omega) (by omega) (by omega)
  have := subv_is (x := W (48 * i + k)) (m := mulv u (W (48 * j + k))) (by omega) (by omega)
  exact ⟨m1, this.1, this.2⟩
theorem mulv_one {u : Int} (hu : -1099511627776 ≤ u ∧ u ≤ 1099511627776) : mulv u 1073741824 = u := by
  obtain ⟨m1, m2, m3, m4, m5⟩ := mulv_near (a := u) (b := 1073741824) (by omega) (by omega) (by omega)
  omega
/-- The place's round. -/
theorem Mv.r7 {W e : Nat → Int} {a b dt : Int} (m : Mv W e a b dt 1073741824 0) : ∃ mm s u v, Mq a b dt mm s u v ∧ dF W e 7 = b + s ∧ dH W e 7 = false ∧ uS W e 7 4 = u ∧ nexH W e 7 7 = false ∧ Mv (nexW W e 7 7) e a b dt (1073741824 - v) (-u) := by
  have ha := m.a
  have hb := m.b
  have ht := m.t
  have w74 : W (48 * 7 + 4) = dt := by rw [m.w 7 4 (by omega) (by omega)]; rfl
  have w77 : W (48 * 7 + 7) = 1073741824 := by rw [m.w 7 7 (by omega) (by omega)]; rfl
  have w44 : W (48 * 4 + 4) = 1073741824 := by rw [m.w 4 4 (by omega) (by omega)]; rfl
  have w47 : W (48 * 4 + 7) = 0 := by rw [m.w 4 7 (by omega) (by omega)]; rfl
  have e4 : e 4 = a := by rw [m.e 4 (by omega)]; rfl
  have e7 : e 7 = b := by rw [m.e 7 (by omega)]; rfl
  obtain ⟨_, y4, t4, _⟩ := m.y (j := 7) (c := 4) (by omega) (by omega)
  obtain ⟨_, y7, t7, _⟩ := m.y (j := 7) (c := 7) (by omega) (by omega)
  rw [w74, e4] at y4
  rw [w77, e7] at y7
  have k7 : yF W e 7 7 = b := by omega
  obtain ⟨mm, hmm⟩ : ∃ mm, mm = yF W e 7 4 := ⟨_, rfl⟩
  rw [← hmm] at y4 t4
  have ta0 := Int.mul_nonneg ht.1 (show 0 ≤ a by omega)
  have ta1 : dt * a ≤ 1073741824 * a := Int.mul_le_mul_of_nonneg_right ht.2 (by omega)
  have hm0 : 0 ≤ mm ∧ mm ≤ a := by omega
  have tm0 := Int.mul_nonneg ht.1 hm0.1
  have tm1 : dt * mm ≤ 1073741824 * mm := Int.mul_le_mul_of_nonneg_right ht.2 hm0.1
  have hs : sumP (rowJ W 7) (yF W e 7) 48 = dt * mm + 1073741824 * b := by
    rw [sumQ_two (c1 := 4) (c2 := 7) (by omega) (by omega) (fun k hk h1 h2 => .inr (m.y0 (by omega) hk h2 (by omega) (by omega)))]
    rw [← hmm, k7, t4, show rowJ W 7 4 = dt from w74, show rowJ W 7 7 = 1073741824 from w77, (satv_in (a := dt) (by omega) (by omega)).1, (satv_in (a := b) (by omega) (by omega)).1]; rfl
  have hr := rnd_bd (dt * mm + 1073741824 * b)
  obtain ⟨s, hss⟩ : ∃ s, s = rnd (dt * mm + 1073741824 * b) 30 - b := ⟨_, rfl⟩
  have hr2 : rnd (dt * mm + 1073741824 * b) 30 = b + s := by omega
  rw [hr2] at hr
  have hs0 : 0 ≤ s ∧ s ≤ a := by omega
  have sb := satv_in (a := b + s) (by omega) (by omega)
  have ha7 : anyP (rowJ W 7) (yF W e 7) 48 = false := any_no (fun c hc => (m.sat (by omega) hc).2) (fun c hc => (m.y (by omega) hc).2.2.2)
  have hn7 : anyN (yH W e 7) 48 = false := anyN_no fun c hc => (m.y (by omega) hc).1
  have hd7 : dotv (rowJ W 7) (yF W e 7) 48 = b + s := by unfold dotv; rw [hs, hr2, sb.1]
  have hD : dF W e 7 = b + s := by unfold dF clampv; rw [hd7, if_neg (by omega), if_neg (by omega), if_neg (by omega)]
  have hDH : dH W e 7 = false := by
    unfold dH doth clamph
    rw [hd7, hs, hr2, sb.2, ha7, hn7, decide_eq_false (by omega), decide_eq_false (by omega), decide_eq_false (by omega)]; rfl
  have hz4 : ∀ k, k < 48 → k ≠ 4 → rowJ W 4 k = 0 ∨ yF W e 7 k = 0 := fun k hk h1 => by
    by_cases h7 : k = 7
    · subst h7; exact .inl w47
    · exact .inr (m.y0 (by omega) hk h7 (by omega) (by omega))
  have hs4 : sumP (rowJ W 4) (yF W e 7) 48 = 1073741824 * mm := by
    rw [sumQ_one (c := 4) (by omega) hz4, ← hmm, t4, show rowJ W 4 4 = 1073741824 from w44]; rfl
  have hd4 : dotv (rowJ W 4) (yF W e 7) 48 = mm := by unfold dotv; rw [hs4, rnd_ones, t4]
  have hh4 : doth (rowJ W 4) (yF W e 7) 48 = false := by
    have a4 : anyP (rowJ W 4) (yF W e 7) 48 = false := any_no (fun c hc => (m.sat (by omega) hc).2) (fun c hc => (m.y (by omega) hc).2.2.2)
    unfold doth; rw [a4, hs4, rnd_ones, (satv_in (a := mm) (by omega) (by omega)).2]; rfl
  have hq := quo_is (v := mm) (d := b + s) (by omega) (by omega) (by omega)
  obtain ⟨u, hu⟩ : ∃ u, u = uS W e 7 4 := ⟨_, rfl⟩
  have hu2 : quov mm (b + s) = u := by rw [hu]; unfold uS; rw [hd4, hD]
  rw [hu2] at hq
  have huh : uSH W e 7 4 = false := by unfold uSH; rw [hh4, hd4, hD, hq.1]; rfl
  have hsq := sqm_le (s := s) ha hb.1 hm0.1 hm0.2 (by omega) (show dt * mm ≤ 1073741824 * s + 536870912 by omega)
  have hub := mu_le (u := u) ha.2 (show 1073741824 ≤ b + s by omega) hm0.1 hsq hq.2
  have ut := mul_bd (a := u) (b := dt) (A := 549755813888) (B := 1073741824) (by omega) (by omega)
  obtain ⟨v1, v2, v3, v4, v5⟩ := mulv_near (a := u) (b := dt) (by omega) (by omega) (by omega)
  have ut0 := Int.mul_nonneg hub.1 ht.1
  have hv2 := v_le (u := u) (v := mulv u dt) hb.1 ht hs0.1 (show dt * mm ≤ 1073741824 * s + 536870912 by omega) hq.2.2 v3
  have hv0 : 0 ≤ mulv u dt := by omega
  have w7 : ∀ k, k < 48 → -1073741824 ≤ W (48 * 7 + k) := fun k hk => by
    rw [m.w 7 k (by omega) hk]
    unfold mvR
    (repeat' split) <;> omega
  refine ⟨mm, s, u, mulv u dt, ⟨ha, hb, ht, hm0, hs0, y4, by omega, hq.2, hub, ⟨v2, v3⟩, hv0, hv2⟩, hD, hDH, hu.symm, ?_, ?_⟩
  · refine nexH_no (Nat.le_refl _) fun i hi => ?_
    by_cases h4 : i = 4
    · subst h4
      refine ⟨huh, fun k hk => ?_⟩
      rw [← hu]
      have := m.take (i := 4) (j := 7) (u := u) (by omega) (by omega) hk (by omega) (w7 k hk)
      exact ⟨this.1, this.2.1⟩
    · exact (m.idle (by omega) hi (fun _ => h4)).2
  · refine ⟨fun i c hi hc => ?_, m.e, m.a, m.b, m.t, by omega, by omega⟩
    by_cases hij : i < 7
    · rw [nexW_at hc hij hij (Nat.le_refl _)]
      by_cases h4 : i = 4
      · subst h4
        rw [← hu, (m.take (i := 4) (j := 7) (u := u) (by omega) (by omega) hc (by omega) (w7 c hc)).2.2, m.w 4 c (by omega) hc, m.w 7 c (by omega) hc]
        by_cases c4 : c = 4
        · subst c4; rfl
        · by_cases c7 : c = 7
          · subst c7
            show 0 - mulv u 1073741824 = -u
            rw [mulv_one (by omega)]; omega
          · by_cases c31 : c = 31
            · subst c31
              show 0 - mulv u 1073741824 = -u
              rw [mulv_one (by omega)]; omega
            · rw [mvR_none (i := 7) (by omega) (by omega) (by omega) (by omega), mulv_zero_r, Int.sub_zero]
              unfold mvR
              (repeat' split) <;> omega
      · rw [(m.idle (by omega) hij (fun _ => h4)).1, mulv_zero_l, subv_zero_r, (m.sat hi hc).1, m.w i c hi hc]
        unfold mvR
        (repeat' split) <;> omega
    · rw [nexW_other (by omega), m.w i c hi hc]
      unfold mvR
      (repeat' split) <;> omega
end Go.Proofs.Ytadeadpcpgfkbaa.EA
