/- A place carried on by its velocity: the velocity's round; all rounds. Nothing of a program is used. -/
import Derived.Test.YtadeadpcpgfkbaaErrO
namespace Go.Proofs.Ytadeadpcpgfkbaa.EA
open Go.RowKit

/-- u u b is at most 2^110. -/
theorem Mq.usq {a b dt m s u v : Int} (h : Mq a b dt m s u v) : u * u * (b + s) ≤ 1298074214633706907132624082305024 := by
  obtain ⟨ha, hb, ht, hm, hs, mm, ss, uu, hu, vv, hv⟩ := h
  have hsq := sqm_le (s := s) ha hb.1 hm.1 hm.2 (by omega) (show dt * m ≤ 1073741824 * s + 536870912 by omega)
  have h1 : 2 * (u * (b + s)) ≤ 2147483648 * m + (b + s) := by omega
  have h0 := Int.mul_nonneg hu.1 (show 0 ≤ b + s by omega)
  generalize hd : b + s = d at *
  have h2 : 2 * (u * d) * (2 * (u * d)) ≤ (2147483648 * m + d) * (2147483648 * m + d) := Int.mul_le_mul h1 h1 (by omega) (by omega)
  have h3 := sq_nn (2147483648 * m - d)
  have e1 : (2147483648 * m + d) * (2147483648 * m + d) = 9223372036854775808 * (m * m) + 2 * (d * d) - (2147483648 * m - d) * (2147483648 * m - d) := by grind
  have e2 : 2 * (u * d) * (2 * (u * d)) = 4 * (u * u * d) * d := by grind
  have e3 : 4 * (9223372036854775808 * a + 2 * d) * d = 4 * (9223372036854775808 * (a * d) + 2 * (d * d)) := by grind
  have h4 : 4 * (u * u * d) * d ≤ (9223372036854775808 * a + 2 * d) * d := by
    rw [← e2]
    have e4 : (9223372036854775808 * a + 2 * d) * d = 9223372036854775808 * (a * d) + 2 * (d * d) := by grind
    rw [e4]
    generalize m * m = q1 at *
    generalize a * d = q2 at *
    generalize d * d = q3 at *
    omega
  have h5 := Int.le_of_mul_le_mul_right h4 (by omega)
  omega
/-- The velocity's round. -/
theorem Mv.r4 {W e : Nat → Int} {a b dt m s u v : Int} (hq : Mq a b dt m s u v) (w : Mv W e a b dt (1073741824 - v) (-u)) : ∃ y4 y7 V, dF W e 4 = V ∧ dH W e 4 = false ∧ (1 ≤ V ∧ V ≤ 2251799813685248) ∧
    (-536870912 ≤ 1073741824 * y4 - (1073741824 - v) * a ∧ 1073741824 * y4 - (1073741824 - v) * a ≤ 536870912) ∧ (-536870912 ≤ 1073741824 * y7 - u * b ∧ 1073741824 * y7 - u * b ≤ 536870912) ∧
    (-536870912 ≤ 1073741824 * V - ((1073741824 - v) * y4 + u * y7) ∧ 1073741824 * V - ((1073741824 - v) * y4 + u * y7) ≤ 536870912) := by
  have hsq := hq.usq
  obtain ⟨ha, hb, ht, hm, hs, mm, ss, uu, hu, vv, hv⟩ := hq
  have w44 : W (48 * 4 + 4) = 1073741824 - v := by rw [w.w 4 4 (by omega) (by omega)]; rfl
  have w47 : W (48 * 4 + 7) = -u := by rw [w.w 4 7 (by omega) (by omega)]; rfl
  have e4 : e 4 = a := by rw [w.e 4 (by omega)]; rfl
  have e7 : e 7 = b := by rw [w.e 7 (by omega)]; rfl
  obtain ⟨_, k4, t4, _⟩ := w.y (j := 4) (c := 4) (by omega) (by omega)
  obtain ⟨_, k7, t7, _⟩ := w.y (j := 4) (c := 7) (by omega) (by omega)
  rw [w44, e4] at k4
  rw [w47, e7, Int.neg_mul] at k7
  obtain ⟨y4, hy4⟩ : ∃ y4, y4 = yF W e 4 4 := ⟨_, rfl⟩
  obtain ⟨y7, hy7⟩ : ∃ y7, y7 = -yF W e 4 7 := ⟨_, rfl⟩
  have hy7b : yF W e 4 7 = -y7 := by omega
  rw [← hy4] at k4 t4
  rw [hy7b] at k7 t7
  have hs4 : sumP (rowJ W 4) (yF W e 4) 48 = (1073741824 - v) * y4 + u * y7 := by
    rw [sumQ_two (c1 := 4) (c2 := 7) (by omega) (by omega) (fun k hk h1 h2 => .inr (w.y0 (by omega) hk h1 (by omega) (by omega)))]
    rw [← hy4, hy7b, t4, t7, show rowJ W 4 4 = 1073741824 - v from w44, show rowJ W 4 7 = -u from w47, (satv_in (a := 1073741824 - v) (by omega) (by omega)).1, (satv_in (a := -u) (by omega) (by omega)).1, Int.neg_mul_neg]
  obtain ⟨S, hS⟩ : ∃ S, S = (1073741824 - v) * y4 + u * y7 := ⟨_, rfl⟩
  rw [← hS] at hs4
  have hr := rnd_bd S
  obtain ⟨V, hV⟩ : ∃ V, V = rnd S 30 := ⟨_, rfl⟩
  rw [← hV] at hr
  have ub0 := Int.mul_nonneg hu.1 (show 0 ≤ b by omega)
  have y70 : 0 ≤ y7 := by omega
  have p7 := Int.mul_nonneg hu.1 y70
  have up : 1073741824 * (u * y7) ≤ 1298074214633706907132624082305024 + 295147905179352825856 := by
    have h1 : u * (1073741824 * y7) ≤ u * (u * b + 536870912) := Int.mul_le_mul_of_nonneg_left (by omega) hu.1
    have h2 : 0 ≤ u * u * s := Int.mul_nonneg (Int.mul_nonneg hu.1 hu.1) hs.1
    have e1 : u * (1073741824 * y7) = 1073741824 * (u * y7) := by grind
    have e2 : u * (u * b + 536870912) = u * u * (b + s) - u * u * s + 536870912 * u := by grind
    rw [e1, e2] at h1
    generalize u * u * (b + s) = g1 at *
    generalize u * u * s = g2 at *
    generalize u * y7 = g3 at *
    omega
  have zb := mul_bd (a := 1073741824 - v) (b := a) (A := 1073741824) (B := 281474976710656) (by omega) (by omega)
  have yb : -281474976710657 ≤ y4 ∧ y4 ≤ 281474976710657 := by omega
  have p4 := mul_bd (a := 1073741824 - v) (b := y4) (A := 1073741824) (B := 281474976710657) (by omega) yb
  have p40 : 0 ≤ (1073741824 - v) * y4 := by
    rcases Int.le_total 0 (1073741824 - v) with h | h
    · have := Int.mul_nonneg h (show 0 ≤ a by omega)
      exact Int.mul_nonneg h (by omega)
    · have : (1073741824 - v) * a ≤ 0 := Int.mul_nonpos_of_nonpos_of_nonneg h (by omega)
      exact Int.mul_nonneg_of_nonpos_of_nonpos h (by omega)
  have low : 1073741824 ≤ S := by
    rcases (show 65536 ≤ 1073741824 - v ∨ 1073741824 - v ≤ 65535 by omega) with h | h
    · have h1 : 65536 * a ≤ (1073741824 - v) * a := Int.mul_le_mul_of_nonneg_right h (by omega)
      have h2 : 65535 ≤ y4 := by omega
      have h3 : 65536 * 65535 ≤ (1073741824 - v) * y4 := Int.mul_le_mul h h2 (by omega) (by omega)
      omega
    · have h0 : u * dt ≤ u * 1073741824 := Int.mul_le_mul_of_nonneg_left ht.2 hu.1
      have h1 : 536870912 ≤ u := by omega
      have h2 : 536870912 * b ≤ u * b := Int.mul_le_mul_of_nonneg_right h1 (by omega)
      have h3 : 536870911 ≤ y7 := by omega
      have h4 : 536870912 * 536870911 ≤ u * y7 := Int.mul_le_mul h1 h3 (by omega) (by omega)
      omega
  have hVb : 1 ≤ V ∧ V ≤ 2251799813685248 := by omega
  have sb := satv_in (a := V) (by omega) (by omega)
  have ha4 : anyP (rowJ W 4) (yF W e 4) 48 = false := any_no (fun c hc => (w.sat (by omega) hc).2) (fun c hc => (w.y (by omega) hc).2.2.2)
  have hn4 : anyN (yH W e 4) 48 = false := anyN_no fun c hc => (w.y (by omega) hc).1
  have hd4 : dotv (rowJ W 4) (yF W e 4) 48 = V := by unfold dotv; rw [hs4, ← hV, sb.1]
  refine ⟨y4, y7, V, ?_, ?_, hVb, k4, by omega, ?_⟩
  · unfold dF clampv; rw [hd4, if_neg (by omega), if_neg (by omega), if_neg (by omega)]
  · unfold dH doth clamph
    rw [hd4, hs4, ← hV, sb.2, ha4, hn4, decide_eq_false (by omega), decide_eq_false (by omega), decide_eq_false (by omega)]; rfl
  · rw [← hS]; exact hr
section
variable {W0 e : Nat → Int} {a b dt : Int}
/-- Up to the place's round. -/
theorem mv_before (w : Mv W0 e a b dt 1073741824 0) : ∀ n, n ≤ 16 → Mv (stW W0 e n) e a b dt 1073741824 0 ∧ stH W0 e n = false
  | 0, _ => ⟨w, rfl⟩
  | n + 1, hn => by
    obtain ⟨h1, h2⟩ := mv_before w n (by omega)
    obtain ⟨h3, h4⟩ := h1.same (j := 23 - n) (by omega) (by omega)
    refine ⟨h3, ?_⟩
    rw [stH, h2, (h1.plain (j := 23 - n) (by omega) (by omega) (by omega)).2, h4]; rfl
/-- After the place's round. -/
theorem mv_after {m s u v : Int} (q : Mq a b dt m s u v) (w : Mv (stW W0 e 17) e a b dt (1073741824 - v) (-u)) (h17 : stH W0 e 17 = false) : ∀ n, n ≤ 7 → Mv (stW W0 e (17 + n)) e a b dt (1073741824 - v) (-u) ∧ stH W0 e (17 + n) = false
  | 0, _ => ⟨w, h17⟩
  | n + 1, hn => by
    obtain ⟨h1, h2⟩ := mv_after q w h17 n (by omega)
    obtain ⟨h3, h4⟩ := h1.same (j := 23 - (17 + n)) (by omega) (by omega)
    refine ⟨h3, ?_⟩
    rw [← Nat.add_assoc, stH, h2, h4]
    by_cases e2 : n = 2
    · subst e2
      obtain ⟨_, _, _, _, hd, _⟩ := h1.r4 q
      rw [show 23 - (17 + 2) = 4 from rfl, hd]; rfl
    · rw [(h1.plain (j := 23 - (17 + n)) (by omega) (by omega) (by omega)).2]; rfl
/-- What the rounds give. -/
theorem mv_all (w : Mv W0 e a b dt 1073741824 0) : ∃ m s u v y4 y7 V, Mq a b dt m s u v ∧ stH W0 e 24 = false ∧ stO W0 e 24 (276 + 7) = b + s ∧ stO W0 e 24 (276 + 4) = V ∧ (1 ≤ V ∧ V ≤ 2251799813685248) ∧
    (∀ c, c < 24 → c ≠ 7 → c ≠ 4 → stO W0 e 24 (276 + c) = 1) ∧ (∀ i c : Nat, i < c → c < 24 → Go.Proofs.Ytadeadpcpgfkbaa.uF (stO W0 e 24) (i : Int) (c : Int) = if i = 4 ∧ c = 7 then u else 0) ∧
    (-536870912 ≤ 1073741824 * y4 - (1073741824 - v) * a ∧ 1073741824 * y4 - (1073741824 - v) * a ≤ 536870912) ∧ (-536870912 ≤ 1073741824 * y7 - u * b ∧ 1073741824 * y7 - u * b ≤ 536870912) ∧
    (-536870912 ≤ 1073741824 * V - ((1073741824 - v) * y4 + u * y7) ∧ 1073741824 * V - ((1073741824 - v) * y4 + u * y7) ≤ 536870912) := by
  obtain ⟨b1, b2⟩ := mv_before w 16 (by omega)
  obtain ⟨m, s, u, v, q, d7, h7, u7, n7, w7⟩ := b1.r7
  have h17 : stH W0 e 17 = false := by
    rw [stH, b2, show 23 - 16 = 7 from rfl, h7, n7]; rfl
  have af := mv_after q (show Mv (stW W0 e 17) e a b dt (1073741824 - v) (-u) from w7) h17
  obtain ⟨y4, y7, V, d4, _, hV, k4, k7, kV⟩ := Mv.r4 q (af 2 (by omega)).1
  have full : ∀ n, n ≤ 24 → ∃ x4 x7, Mv (stW W0 e n) e a b dt x4 x7 := fun n hn => by
    by_cases h : n ≤ 16
    · exact ⟨_, _, (mv_before w n h).1⟩
    · have := (af (n - 17) (by omega)).1
      rw [show 17 + (n - 17) = n by omega] at this
      exact ⟨_, _, this⟩
  refine ⟨m, s, u, v, y4, y7, V, q, (af 7 (by omega)).2, ?_, ?_, hV, fun c hc h7 h4 => ?_, fun i c hi hc => ?_, k4, k7, kV⟩
  · rw [out_d (by omega)]; exact d7
  · rw [out_d (by omega)]; exact d4
  · rw [out_d hc]
    obtain ⟨_, _, hm⟩ := full (23 - c) (by omega)
    exact (hm.plain hc h7 h4).1
  · rw [out_u hi hc]
    by_cases h : i = 4 ∧ c = 7
    · obtain ⟨rfl, rfl⟩ := h
      rw [if_pos ⟨rfl, rfl⟩]; exact u7
    · rw [if_neg h]
      obtain ⟨_, _, hm⟩ := full (23 - c) (by omega)
      exact (hm.idle hc hi (fun x y => h ⟨y, x⟩)).1
end
end Go.Proofs.Ytadeadpcpgfkbaa.EA
