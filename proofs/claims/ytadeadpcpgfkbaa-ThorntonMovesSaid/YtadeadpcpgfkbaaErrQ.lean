/- A place carried on by its velocity: what the step gives. Nothing of a program is used. -/
import Derived.Test.YtadeadpcpgfkbaaErrP
namespace Go.Proofs.Ytadeadpcpgfkbaa.EA
open Go.RowKit

structure MvIn (f g q : Nat → Int) (a b dt : Int) : Prop where
  u : ∀ k, k < 276 → f k = 0
  d : ∀ k, k < 24 → f (276 + k) = if k = 4 then a else if k = 7 then b else 1
  g : ∀ i t, i < 24 → t < 24 → g (24 * i + t) = if t = i then 1073741824 else if i = 7 ∧ t = 4 then dt else 0
  q : ∀ k, k < 24 → q k = 0
  ha : 1073741824 ≤ a ∧ a ≤ 281474976710656
  hb : 1073741824 ≤ b ∧ b ≤ 281474976710656
  ht : 0 ≤ dt ∧ dt ≤ 1073741824
section
variable {f g q : Nat → Int} {a b dt : Int}
theorem MvIn.fd (h : MvIn f g q a b dt) {k : Nat} (hk : k < 24) : 1 ≤ f (276 + k) ∧ f (276 + k) ≤ 281474976710656 := by
  have h1 := h.ha
  have h2 := h.hb
  rw [h.d k hk]
  (repeat' split) <;> omega
theorem MvIn.cu (h : MvIn f g q a b dt) {k : Nat} (hk : k < 276) : condF f k = 0 := by
  unfold condF
  rw [if_pos hk, h.u k hk]; exact satv_zero
theorem MvIn.cd (h : MvIn f g q a b dt) {k : Nat} (hk : k < 24) : condF f (276 + k) = f (276 + k) := by
  unfold condF
  rw [if_neg (by omega)]
  have := h.fd hk
  unfold clampv
  rw [if_neg (by omega), if_neg (by omega), if_neg (by omega)]
theorem MvIn.uf (h : MvIn f g q a b dt) {t c : Nat} (_ : t < 24) (hc : c < 24) : Go.Proofs.Ytadeadpcpgfkbaa.uF (condF f) (t : Int) (c : Int) = if t = c then 1073741824 else 0 := by
  rcases Nat.lt_trichotomy t c with h1 | h1 | h1
  · rw [if_neg (by omega), uF_num h1 hc]
    have hb := plcN_le (c + 1) (by omega)
    have hs := plcN_next c hc
    exact h.cu (by omega)
  · subst h1; rw [if_pos rfl, uF_diag hc]
  · rw [if_neg (by omega), uF_below h1]
theorem MvIn.gs (h : MvIn f g q a b dt) {i t : Nat} (hi : i < 24) (ht : t < 24) : sat576 g (24 * i + t) = g (24 * i + t) ∧ (0 ≤ g (24 * i + t) ∧ g (24 * i + t) ≤ 1073741824) := by
  have h1 := h.ht
  have h2 : 0 ≤ g (24 * i + t) ∧ g (24 * i + t) ≤ 1073741824 := by
    rw [h.g i t hi ht]
    (repeat' split) <;> omega
  exact ⟨(satv_in (by omega) (by omega)).1, h2⟩
theorem MvIn.sum (h : MvIn f g q a b dt) {i c : Nat} (hi : i < 24) (hc : c < 24) : sumP (fun t => sat576 g (24 * i + t)) (fun t => Go.Proofs.Ytadeadpcpgfkbaa.uF (condF f) (t : Int) (c : Int)) (c + 1) = 1073741824 * g (24 * i + c) := by
  rw [sumQ_one (c := c) (by omega) (fun k hk hne => .inr (by rw [h.uf (by omega) hc, if_neg hne]))]
  have h1 := h.gs hi hc
  rw [h1.1, h.uf hc hc, if_pos rfl, (satv_in (a := g (24 * i + c)) (by omega) (by omega)).1, (satv_in (a := 1073741824) (by omega) (by omega)).1]
  exact Int.mul_comm _ _
theorem MvIn.mv (h : MvIn f g q a b dt) : Mv (W00 f g) (wei (condF f) q) a b dt 1073741824 0 := by
  refine ⟨fun i c hi hc => ?_, fun c hc => ?_, h.ha, h.hb, h.ht, by omega, by omega⟩
  · by_cases h1 : c < 24
    · unfold W00 rowW
      rw [show (48 * i + c) % 48 = c by omega, show (48 * i + c) / 48 = i by omega, if_pos h1]
      dsimp only
      unfold dotv
      have h2 := h.gs hi h1
      rw [h.sum hi h1, rnd_ones, (satv_in (a := g (24 * i + c)) (by omega) (by omega)).1, h.g i c hi h1]
      unfold mvR
      (repeat' split) <;> omega
    · obtain ⟨k, rfl⟩ : ∃ k, c = 24 + k := ⟨c - 24, by omega⟩
      rw [w_noise (by omega)]
      unfold mvR
      (repeat' split) <;> omega
  · unfold wei
    by_cases h1 : c < 24
    · rw [if_pos h1, h.cd h1, h.d c h1, if_pos h1]
    · rw [if_neg h1, h.q (c - 24) (by omega), if_neg (by omega), if_neg (by omega), if_neg h1]; rfl
theorem MvIn.hit (h : MvIn f g q a b dt) : stepH f g q = false := by
  have c1 : condH f = false := by
    unfold condH
    have hD : ∀ n, n ≤ 24 → hitD f n = false := by
      intro n
      induction n with
      | zero => intro _; rfl
      | succ n ih =>
        intro hn
        have := h.fd (k := n) (by omega)
        rw [hitD, ih (by omega)]
        unfold clamph
        rw [decide_eq_false (by omega), decide_eq_false (by omega), decide_eq_false (by omega)]; rfl
    have hU : ∀ n, n ≤ 276 → hitU f n = false := by
      intro n
      induction n with
      | zero => intro _; rfl
      | succ n ih =>
        intro hn
        rw [hitU, ih (by omega), h.u n (by omega)]; rfl
    rw [hD 24 (Nat.le_refl _), hU 276 (Nat.le_refl _)]; rfl
  have c2 : anyN (fun k => sath (g k)) 576 = false := anyN_no fun k hk => by
    have h1 := (h.gs (i := k / 24) (t := k % 24) (by omega) (by omega)).2
    rw [show 24 * (k / 24) + k % 24 = k by omega] at h1
    exact sath_in (by omega) (by omega)
  have c4 : anyN (fun k => clamph (q k) 0 72057594037927936) 24 = false := anyN_no fun k hk => by rw [h.q k hk]; rfl
  have c3 : anyN (fun k => anyN (fun i => rowsH (condF f) (sat576 g) (fun k => k + 1) (48 * i + k)) 24) 24 = false := anyN_no fun k hk => anyN_no fun i hi => by
    rw [rowsH_is hk]
    have h2 := (h.gs hi hk).2
    unfold doth
    rw [any_no (fun c hc => by rw [(h.gs hi (by omega)).1]; have := (h.gs (t := c) hi (by omega)).2; exact sath_in (by omega) (by omega)) (fun c hc => by rw [h.uf (by omega) hk]; split <;> rfl), h.sum hi hk, rnd_ones, sath_in (by omega) (by omega)]; rfl
  obtain ⟨_, _, _, _, _, _, _, _, hs, _⟩ := mv_all h.mv
  unfold stepH
  rw [c1, c2, c3, c4]
  exact hs
end
end Go.Proofs.Ytadeadpcpgfkbaa.EA
