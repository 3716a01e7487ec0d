/- A place carried on by its velocity: what is read off it. Nothing of a program is used. -/
import Derived.Test.YtadeadpcpgfkbaaErrQ
namespace Go.Proofs.Ytadeadpcpgfkbaa.EA
open Go.RowKit

/-- Factors of such a step. -/
structure MvOut (A : Nat → Int) (u d V : Int) : Prop where
  uo : ∀ i c : Nat, i < c → c < 24 → Go.Proofs.Ytadeadpcpgfkbaa.uF A (i : Int) (c : Int) = if i = 4 ∧ c = 7 then u else 0
  d7 : A (276 + 7) = d
  d4 : A (276 + 4) = V
  d1 : ∀ c, c < 24 → c ≠ 7 → c ≠ 4 → A (276 + c) = 1
  hu : 0 ≤ u ∧ u ≤ 549755813888
  hd : 1 ≤ d ∧ d ≤ 2251799813685248
  hV : 1 ≤ V ∧ V ≤ 2251799813685248
section
variable {A : Nat → Int} {u d V : Int}
theorem MvOut.ub (h : MvOut A u d V) {i c : Nat} (hc : c < 24) : -549755813888 ≤ Go.Proofs.Ytadeadpcpgfkbaa.uF A (i : Int) (c : Int) ∧ Go.Proofs.Ytadeadpcpgfkbaa.uF A (i : Int) (c : Int) ≤ 549755813888 := by
  have := h.hu
  rcases Nat.lt_trichotomy i c with h1 | h1 | h1
  · rw [h.uo i c h1 hc]; split <;> omega
  · subst h1; rw [uF_diag hc]; omega
  · rw [uF_below h1]; omega
theorem MvOut.db (h : MvOut A u d V) {c : Nat} (hc : c < 24) : 1 ≤ A (276 + c) ∧ A (276 + c) ≤ 2251799813685248 := by
  have h1 := h.hd
  have h2 := h.hV
  by_cases c7 : c = 7
  · subst c7; rw [h.d7]; exact h1
  · by_cases c4 : c = 4
    · subst c4; rw [h.d4]; exact h2
    · rw [h.d1 c hc c7 c4]; omega
theorem MvOut.y (h : MvOut A u d V) {j c : Nat} (hc : c < 24) : mulh (Go.Proofs.Ytadeadpcpgfkbaa.uF A (j : Int) (c : Int)) (A (276 + c)) = false ∧
    (-536870912 ≤ 1073741824 * mulv (Go.Proofs.Ytadeadpcpgfkbaa.uF A (j : Int) (c : Int)) (A (276 + c)) - Go.Proofs.Ytadeadpcpgfkbaa.uF A (j : Int) (c : Int) * A (276 + c) ∧ 1073741824 * mulv (Go.Proofs.Ytadeadpcpgfkbaa.uF A (j : Int) (c : Int)) (A (276 + c)) - Go.Proofs.Ytadeadpcpgfkbaa.uF A (j : Int) (c : Int) * A (276 + c) ≤ 536870912) ∧
    satv (mulv (Go.Proofs.Ytadeadpcpgfkbaa.uF A (j : Int) (c : Int)) (A (276 + c))) = mulv (Go.Proofs.Ytadeadpcpgfkbaa.uF A (j : Int) (c : Int)) (A (276 + c)) ∧ sath (mulv (Go.Proofs.Ytadeadpcpgfkbaa.uF A (j : Int) (c : Int)) (A (276 + c))) = false := by
  have h1 := h.ub (i := j) hc
  have h2 := h.db hc
  have h3 := mul_bd (a := Go.Proofs.Ytadeadpcpgfkbaa.uF A (j : Int) (c : Int)) (b := A (276 + c)) (A := 549755813888) (B := 2251799813685248) (by omega) (by omega)
  obtain ⟨m1, m2, m3, m4, m5⟩ := mulv_near (a := Go.Proofs.Ytadeadpcpgfkbaa.uF A (j : Int) (c : Int)) (b := A (276 + c)) (by omega) (by omega) (by omega)
  exact ⟨m1, ⟨m2, m3⟩, satv_in m4 m5⟩
theorem MvOut.any (h : MvOut A u d V) (j m : Nat) : ∀ n, m + n ≤ 24 → anyY A (j : Int) m n = false
  | 0, _ => rfl
  | n + 1, hn => by rw [anyY, h.any j m n (by omega), (h.y (by omega)).1]; rfl
/-- A number read off, by its sum. -/
theorem MvOut.at_ (h : MvOut A u d V) {i j : Nat} (hi : i ≤ j) (hj : j < 24) {S : Int} (hs : sumP (atX A (i : Int) j) (atY A (j : Int) j) (24 - j) = S) (hb : -1152921504606846976 ≤ rnd S 30 ∧ rnd S 30 ≤ 1152921504606846976) :
    atH A (i : Int) (j : Int) = false ∧ atV A (i : Int) (j : Int) = rnd S 30 := by
  have hm : (max (i : Int) (j : Int)).toNat = j := by omega
  have es : atS A (i : Int) (j : Int) = S := by unfold atS; rw [hm]; exact hs
  have ha : anyP (atX A (i : Int) j) (atY A (j : Int) j) (24 - j) = false := any_no (fun c hc => by
    have := h.ub (i := i) (c := j + c) (by omega)
    exact sath_in (a := Go.Proofs.Ytadeadpcpgfkbaa.uF A (i : Int) ((j + c : Nat) : Int)) (by omega) (by omega)) (fun c hc => (h.y (j := j) (c := j + c) (by omega)).2.2.2)
  have s := satv_in hb.1 hb.2
  unfold atH atV
  rw [(inN_iff (i : Int)).2 (by omega), (inN_iff (j : Int)).2 (by omega), hm, h.any j j (24 - j) (by omega), ha, es, s.1, s.2]
  exact ⟨rfl, rfl⟩
theorem MvOut.at77 (h : MvOut A u d V) : atH A 7 7 = false ∧ atV A 7 7 = d := by
  have hd := h.hd
  have k := h.y (j := 7) (c := 7) (by omega)
  rw [uF_diag (by omega), h.d7] at k
  have k7 : mulv 1073741824 d = d := by omega
  have hs : sumP (atX A ((7 : Nat) : Int) 7) (atY A ((7 : Nat) : Int) 7) (24 - 7) = 1073741824 * d := by
    rw [sumQ_one (c := 0) (by omega) (fun c hc hne => .inl (by
      show Go.Proofs.Ytadeadpcpgfkbaa.uF A ((7 : Nat) : Int) ((7 + c : Nat) : Int) = 0
      rw [h.uo 7 (7 + c) (by omega) (by omega), if_neg (by omega)]))]
    have e1 : atX A ((7 : Nat) : Int) 7 0 = 1073741824 := uF_diag (by omega)
    have e2 : atY A ((7 : Nat) : Int) 7 0 = d := by
      show mulv (Go.Proofs.Ytadeadpcpgfkbaa.uF A ((7 : Nat) : Int) ((7 : Nat) : Int)) (A (276 + 7)) = d
      rw [uF_diag (by omega), h.d7, k7]
    rw [e1, e2, (satv_in (a := d) (by omega) (by omega)).1]; rfl
  have := h.at_ (i := 7) (j := 7) (by omega) (by omega) hs (by rw [rnd_ones]; omega)
  rw [rnd_ones] at this
  exact this
theorem MvOut.at47 (h : MvOut A u d V) (hb : u * d ≤ 604462909807314587353088) : atH A 4 7 = false ∧ atV A 4 7 = rnd (u * d) 30 := by
  have hd := h.hd
  have hu := h.hu
  have hp := Int.mul_nonneg hu.1 (show 0 ≤ d by omega)
  have k := h.y (j := 7) (c := 7) (by omega)
  rw [uF_diag (by omega), h.d7] at k
  have k7 : mulv 1073741824 d = d := by omega
  have hs : sumP (atX A ((4 : Nat) : Int) 7) (atY A ((7 : Nat) : Int) 7) (24 - 7) = u * d := by
    rw [sumQ_one (c := 0) (by omega) (fun c hc hne => .inl (by
      show Go.Proofs.Ytadeadpcpgfkbaa.uF A ((4 : Nat) : Int) ((7 + c : Nat) : Int) = 0
      rw [h.uo 4 (7 + c) (by omega) (by omega), if_neg (by omega)]))]
    have e1 : atX A ((4 : Nat) : Int) 7 0 = u := by
      show Go.Proofs.Ytadeadpcpgfkbaa.uF A ((4 : Nat) : Int) ((7 : Nat) : Int) = u
      rw [h.uo 4 7 (by omega) (by omega)]; rfl
    have e2 : atY A ((7 : Nat) : Int) 7 0 = d := by
      show mulv (Go.Proofs.Ytadeadpcpgfkbaa.uF A ((7 : Nat) : Int) ((7 : Nat) : Int)) (A (276 + 7)) = d
      rw [uF_diag (by omega), h.d7, k7]
    rw [e1, e2, (satv_in (a := d) (by omega) (by omega)).1, (satv_in (a := u) (by omega) (by omega)).1]
  have hr := rnd_bd (u * d)
  exact h.at_ (i := 4) (j := 7) (by omega) (by omega) hs (by omega)
theorem MvOut.at44 (h : MvOut A u d V) (hb : u * mulv u d ≤ 2417851639229258349412352) (hb0 : 0 ≤ u * mulv u d) : atH A 4 4 = false ∧ atV A 4 4 = rnd (1073741824 * V + u * mulv u d) 30 := by
  have hd := h.hd
  have hu := h.hu
  have hV := h.hV
  have k := h.y (j := 4) (c := 4) (by omega)
  rw [uF_diag (by omega), h.d4] at k
  have k4 : mulv 1073741824 V = V := by omega
  have u47 : Go.Proofs.Ytadeadpcpgfkbaa.uF A ((4 : Nat) : Int) ((7 : Nat) : Int) = u := by rw [h.uo 4 7 (by omega) (by omega)]; rfl
  have k' := (h.y (j := 4) (c := 7) (by omega)).2.2.1
  rw [u47, h.d7] at k'
  have hs : sumP (atX A ((4 : Nat) : Int) 4) (atY A ((4 : Nat) : Int) 4) (24 - 4) = 1073741824 * V + u * mulv u d := by
    rw [sumQ_two (c1 := 0) (c2 := 3) (by omega) (by omega) (fun c hc h0 h3 => .inl (by
      show Go.Proofs.Ytadeadpcpgfkbaa.uF A ((4 : Nat) : Int) ((4 + c : Nat) : Int) = 0
      rw [h.uo 4 (4 + c) (by omega) (by omega), if_neg (by omega)]))]
    have e1 : atX A ((4 : Nat) : Int) 4 0 = 1073741824 := uF_diag (by omega)
    have e2 : atY A ((4 : Nat) : Int) 4 0 = V := by
      show mulv (Go.Proofs.Ytadeadpcpgfkbaa.uF A ((4 : Nat) : Int) ((4 : Nat) : Int)) (A (276 + 4)) = V
      rw [uF_diag (by omega), h.d4, k4]
    have e3 : atX A ((4 : Nat) : Int) 4 3 = u := u47
    have e4 : atY A ((4 : Nat) : Int) 4 3 = mulv u d := by
      show mulv (Go.Proofs.Ytadeadpcpgfkbaa.uF A ((4 : Nat) : Int) ((7 : Nat) : Int)) (A (276 + 7)) = mulv u d
      rw [u47, h.d7]
    rw [e1, e2, e3, e4, (satv_in (a := V) (by omega) (by omega)).1, (satv_in (a := u) (by omega) (by omega)).1, k']; rfl
  have hr := rnd_bd (1073741824 * V + u * mulv u d)
  exact h.at_ (i := 4) (j := 4) (by omega) (by omega) hs (by omega)
end
/-- All that is asked of the step. -/
theorem moves {f g q : Nat → Int} {a b dt : Int} (h : MvIn f g q a b dt) :
    (stepH f g q = false ∧ atH (stepF f g q) 7 7 = false ∧ atH (stepF f g q) 4 7 = false ∧ atH (stepF f g q) 4 4 = false ∧ mulh a dt = false ∧ mulh (mulv a dt) dt = false) ∧
    (-4194304 ≤ atV (stepF f g q) 7 7 - b - mulv (mulv a dt) dt ∧ atV (stepF f g q) 7 7 - b - mulv (mulv a dt) dt ≤ 4194304) ∧
    (-4194304 ≤ atV (stepF f g q) 4 7 - mulv a dt ∧ atV (stepF f g q) 4 7 - mulv a dt ≤ 4194304) ∧
    (-4194304 ≤ atV (stepF f g q) 4 4 - a ∧ atV (stepF f g q) 4 4 - a ≤ 4194304) ∧
    (0 ≤ mulv a dt ∧ mulv a dt ≤ 281474976710656) ∧ (0 ≤ mulv (mulv a dt) dt ∧ mulv (mulv a dt) dt ≤ 281474976710656) := by
  have hA : stepF f g q = stO (W00 f g) (wei (condF f) q) 24 := rfl
  have hH := h.hit
  obtain ⟨m, s, u, v, y4, y7, V, mq, _, d7, d4, hV, d1, uo, k4, k7, kV⟩ := mv_all h.mv
  rw [← hA] at d7 d4 d1 uo
  have hsq := mq.usq
  obtain ⟨ha, hb, ht, hm, hs, mm, ss, uu, hu, vv, hv⟩ := mq
  have o : MvOut (stepF f g q) u (b + s) V := ⟨uo, d7, d4, d1, hu, by omega, hV⟩
  have hud : u * (b + s) ≤ 604462909807314587353088 := by omega
  have hud0 := Int.mul_nonneg hu.1 (show 0 ≤ b + s by omega)
  obtain ⟨w1, w2, w3, w4, w5⟩ := mulv_near (a := u) (b := b + s) (by omega) (by omega) (by omega)
  have hw0 : 0 ≤ mulv u (b + s) := by omega
  have huw0 := Int.mul_nonneg hu.1 hw0
  have huw : u * mulv u (b + s) ≤ 2417851639229258349412352 := by
    have h1 : u * (1073741824 * mulv u (b + s)) ≤ u * (u * (b + s) + 536870912) := Int.mul_le_mul_of_nonneg_left (by omega) hu.1
    have e1 : u * (1073741824 * mulv u (b + s)) = 1073741824 * (u * mulv u (b + s)) := by grind
    have e2 : u * (u * (b + s) + 536870912) = u * u * (b + s) + 536870912 * u := by grind
    rw [e1, e2] at h1
    generalize u * u * (b + s) = g1 at *
    generalize u * mulv u (b + s) = g2 at *
    omega
  obtain ⟨a1, a2⟩ := o.at77
  obtain ⟨a3, a4⟩ := o.at47 hud
  obtain ⟨a5, a6⟩ := o.at44 huw huw0
  have r4 := rnd_bd (u * (b + s))
  have r6 := rnd_bd (1073741824 * V + u * mulv u (b + s))
  have fin := mv_near ha hb ht hm.1 hm.2 hs.1 hs.2 mm ss uu hu vv (by omega) k4 k7 kV ⟨w2, w3⟩ r6
  have ta0 := Int.mul_nonneg (show 0 ≤ a by omega) ht.1
  have ta1 : a * dt ≤ a * 1073741824 := Int.mul_le_mul_of_nonneg_left ht.2 (by omega)
  have ec : dt * a = a * dt := Int.mul_comm _ _
  obtain ⟨p1, p2, p3, p4, p5⟩ := mulv_near (a := a) (b := dt) (by omega) (by omega) (by omega)
  obtain ⟨M, hM⟩ : ∃ M, M = mulv a dt := ⟨_, rfl⟩
  rw [← hM] at p2 p3 p4 p5 ⊢
  have hM0 : 0 ≤ M ∧ M ≤ 281474976710656 := by omega
  have tb0 := Int.mul_nonneg hM0.1 ht.1
  have tb1 : M * dt ≤ M * 1073741824 := Int.mul_le_mul_of_nonneg_left ht.2 hM0.1
  obtain ⟨q1, q2, q3, q4, q5⟩ := mulv_near (a := M) (b := dt) (by omega) (by omega) (by omega)
  have hMm : -1 ≤ M - m ∧ M - m ≤ 1 := by omega
  have hdM := mul_bd (a := M - m) (b := dt) (A := 1) (B := 1073741824) hMm (by omega)
  have e3 : (M - m) * dt = M * dt - dt * m := by grind
  rw [e3] at hdM
  rw [a2, a4, a6]
  exact ⟨⟨hH, a1, a3, a5, p1, q1⟩, by omega, by omega, fin, hM0, by omega⟩
end Go.Proofs.Ytadeadpcpgfkbaa.EA
