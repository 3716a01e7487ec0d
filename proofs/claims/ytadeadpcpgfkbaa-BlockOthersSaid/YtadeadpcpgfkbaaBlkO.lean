/- One state forgotten or given a new variance: what others have in common stays, nearly. Numbers alone. -/
import Derived.Test.YtadeadpcpgfkbaaERR
namespace Go.Proofs.Ytadeadpcpgfkbaa.EA
open Go.RowKit

theorem at_alone {f : Nat → Int} {k : Nat} (hk : k < 24) (h0 : ∀ c, c < 24 → c ≠ k → Go.Proofs.Ytadeadpcpgfkbaa.uF f (k : Int) (c : Int) = 0) (hd : ∀ c, c < 24 → 1 ≤ f (276 + c) ∧ f (276 + c) ≤ 72057594037927936) :
    atV f (k : Int) (k : Int) = f (276 + k) ∧ atH f (k : Int) (k : Int) = false := by
  have hD := hd k hk
  have sD := satv_in (a := f (276 + k)) (by omega) (by omega)
  have s1 := satv_in (a := 1073741824) (by omega) (by omega)
  have hm : (max (k : Int) (k : Int)).toNat = k := by omega
  have hmul : mulv 1073741824 (f (276 + k)) = f (276 + k) ∧ mulh 1073741824 (f (276 + k)) = false := by
    unfold mulv mulh
    rw [s1.1, s1.2, sD.1, sD.2, rnd_ones, sD.1, sD.2]; exact ⟨rfl, rfl⟩
  have hX : ∀ t, t < 24 - k → atX f (k : Int) k t = if t = 0 then 1073741824 else 0 := fun t ht => by
    unfold atX
    by_cases e : t = 0
    · subst e; rw [if_pos rfl, Nat.add_zero]; exact uF_diag hk
    · rw [if_neg e]; exact h0 _ (by omega) (by omega)
  have hY : ∀ t, t < 24 - k → atY f (k : Int) k t = if t = 0 then f (276 + k) else 0 := fun t ht => by
    have := hX t ht
    unfold atX at this
    unfold atY
    rw [this]
    by_cases e : t = 0
    · subst e; rw [if_pos rfl, if_pos rfl, Nat.add_zero]; exact hmul.1
    · rw [if_neg e, if_neg e]; exact mulv_zero_l _
  have hS : atS f (k : Int) (k : Int) = 1073741824 * f (276 + k) := by
    unfold atS
    rw [hm, sumQ_one (c := 0) (by omega) (fun t ht hne => .inl (by rw [hX t ht, if_neg hne])), hX 0 (by omega), hY 0 (by omega), if_pos rfl, if_pos rfl, s1.1, sD.1]
  have hAny : ∀ n, n ≤ 24 - k → anyY f (k : Int) k n = false := by
    intro n
    induction n with
    | zero => intro _; rfl
    | succ n ih =>
      intro hn
      rw [anyY, ih (by omega), Bool.false_or]
      have := hX n (by omega)
      unfold atX at this
      rw [this]
      have hdn := hd (k + n) (by omega)
      by_cases e : n = 0
      · subst e; rw [if_pos rfl, Nat.add_zero]; exact hmul.2
      · rw [if_neg e]; exact mulh_zero (sath_in (by omega) (by omega))
  have hP : anyP (atX f (k : Int) k) (atY f (k : Int) k) (24 - k) = false := by
    cases hc : anyP (atX f (k : Int) k) (atY f (k : Int) k) (24 - k)
    · rfl
    · obtain ⟨t, ht, hx⟩ := anyP_iff.1 hc
      rw [hX t ht, hY t ht] at hx
      by_cases e : t = 0
      · rw [if_pos e, if_pos e, s1.2, sD.2] at hx; cases hx
      · rw [if_neg e, if_neg e, sath_zero] at hx; cases hx
  unfold atV atH
  rw [(inN_iff (k : Int)).2 (by omega), hm, hAny _ (Nat.le_refl _), hP, hS, rnd_ones, sD.1, sD.2]
  exact ⟨rfl, rfl⟩
theorem out_D (p g q : Nat → Int) {c : Nat} (hc : c < 24) : 1 ≤ stepF p g q (276 + c) ∧ stepF p g q (276 + c) ≤ 72057594037927936 := by
  unfold stepF
  rw [stO_var _ _ 24 c (by omega) (by omega) hc]
  exact dF_in _ _ _
theorem var_plain {f : Nat → Int} (h : Plain f) {k : Nat} (hk : k < 24) : atH f (k : Int) (k : Int) = false ∧ 1 ≤ atV f (k : Int) (k : Int) ∧ atV f (k : Int) (k : Int) ≤ 35184372088832 := by
  obtain ⟨a1, a2, a3, _, _⟩ := at_small (small_plain h) (i := (k : Int)) (j := (k : Int)) (by omega) (by omega)
  rw [show (max (k : Int) (k : Int)).toNat = k by omega] at a2 a3
  have h1 := exS_plain h hk 24 (Nat.le_refl _)
  rw [if_pos hk, exS_skip f k k (m := k) (by omega) (by omega)] at h1
  have h2 := exS_front f (k : Int) (k : Int) k (23 - k)
  rw [show 23 - k + 1 = 24 - k by omega, uF_diag hk] at h2
  have h3 := exS_more (small_plain h) (k : Int) (k + 1) (23 - k) 0 (by omega)
  rw [Nat.add_zero] at h3
  have h4 : exS f (k : Int) (k : Int) (k + 1 + (23 - k)) 0 = 0 := rfl
  rw [h4] at h3
  have hd := h.d k hk
  generalize exS f (k : Int) (k : Int) k (24 - k) = E at *
  generalize exS f (k : Int) (k : Int) (k + 1) (23 - k) = R at *
  exact ⟨a1, by omega, by omega⟩
theorem leav_bg {K : Nat} (hK : K < 24) (v : Int) : Leav (bgS anew0 (K : Int) v) K := ⟨fun i t hi ht => by
  rw [bgS_in hK, if_neg (by omega)]
  by_cases e : t = i
  · by_cases e2 : i = K
    · rw [if_pos (by omega), if_neg (fun x => x.2 e2)]
    · rw [if_neg (by omega), if_pos ⟨e, e2⟩]
      unfold anew0 oneG
      rw [if_pos (by omega), if_pos (by omega)]
  · rw [if_neg (show ¬ 24 * i + t = 25 * K by omega), if_neg (show ¬ (t = i ∧ i ≠ K) from fun x => e x.1)]
    unfold anew0 oneG
    rw [if_pos (by omega), if_neg (by omega)]⟩
theorem tail_bg {K : Nat} (hK : K < 24) {v : Int} (hv : 1 ≤ v ∧ v ≤ 35184372088832) {k : Nat} (hk : k < 24) : tailS (bgS anew0 (K : Int) v) k = if k = K then v else 0 := by
  unfold tailS
  rw [bgS_in hK]
  by_cases e : k = K
  · rw [if_pos (by omega), if_pos e]
    unfold clampv
    rw [if_neg (by omega), if_neg (by omega), if_neg (by omega)]
  · rw [if_neg (by omega), if_neg (by omega), if_neg e]
    unfold anew0
    rw [if_neg (by omega)]
theorem anew_num {f : Nat → Int} (h : Plain f) {K : Nat} (hK : K < 24) {v : Int} (hv : 1 ≤ v ∧ v ≤ 35184372088832) :
    stepH f (bgS anew0 (K : Int) v) (tailS (bgS anew0 (K : Int) v)) = false ∧
    (∀ i l : Nat, i < 24 → l < 24 → i ≠ K → l ≠ K → atH f (i : Int) (l : Int) = false ∧ atH (stepF f (bgS anew0 (K : Int) v) (tailS (bgS anew0 (K : Int) v))) (i : Int) (l : Int) = false ∧ -36028797018963968 ≤ atV f (i : Int) (l : Int) ∧ atV f (i : Int) (l : Int) ≤ 36028797018963968 ∧
      -4294967296 ≤ atV (stepF f (bgS anew0 (K : Int) v) (tailS (bgS anew0 (K : Int) v))) (i : Int) (l : Int) - atV f (i : Int) (l : Int) ∧ atV (stepF f (bgS anew0 (K : Int) v) (tailS (bgS anew0 (K : Int) v))) (i : Int) (l : Int) - atV f (i : Int) (l : Int) ≤ 4294967296) ∧
    atV (stepF f (bgS anew0 (K : Int) v) (tailS (bgS anew0 (K : Int) v))) (K : Int) (K : Int) = v ∧ atH (stepF f (bgS anew0 (K : Int) v) (tailS (bgS anew0 (K : Int) v))) (K : Int) (K : Int) = false := by
  have hL := leav_bg hK v
  have hT := fun k (hk : k < 24) => tail_bg hK hv hk
  have hq : ∀ k, k < 24 → 0 ≤ tailS (bgS anew0 (K : Int) v) k ∧ tailS (bgS anew0 (K : Int) v) k ≤ 35184372088832 := fun k hk => by
    rw [hT k hk]; split <;> omega
  have hq2 : ∀ k, k < 24 → k ≠ K → tailS (bgS anew0 (K : Int) v) k ≤ 17592186044416 := fun k hk hne => by rw [hT k hk, if_neg hne]; omega
  have hqd : K < 24 → 1 ≤ tailS (bgS anew0 (K : Int) v) K := fun _ => by rw [hT K hK, if_pos rfl]; omega
  have hqK : tailS (bgS anew0 (K : Int) v) K = v := by rw [hT K hK, if_pos rfl]
  refine ⟨hit_leav h hL hq hq2 hqd, fun i l hi hl hid hld => ?_, ?_⟩
  · obtain ⟨h1, h2, h3, h4, h5, h6⟩ := near_leav h hL hq hq2 hqd hi hl hid hld
    have e0 : (if i = l then tailS (bgS anew0 (K : Int) v) i else 0) = 0 := by
      split
      · rw [hT i hi, if_neg hid]
      · rfl
    rw [e0] at h5 h6
    exact ⟨h1, h2, h3, h4, by omega, by omega⟩
  · obtain ⟨s1, s2⟩ := step_apart (f := f) (g := bgS anew0 (K : Int) v) (q := tailS (bgS anew0 (K : Int) v)) hK (fun t ht => by rw [hL.at_ K t hK ht, if_neg (fun x => x.2 rfl)]) (by rw [hqK]; omega)
    obtain ⟨r1, r2⟩ := at_alone (f := stepF f (bgS anew0 (K : Int) v) (tailS (bgS anew0 (K : Int) v))) hK (fun c hc hne => (s2 c hc hne).1) (fun c hc => out_D _ _ _ hc)
    rw [s1, hqK] at r1
    exact ⟨r1, r2⟩
end Go.Proofs.Ytadeadpcpgfkbaa.EA
