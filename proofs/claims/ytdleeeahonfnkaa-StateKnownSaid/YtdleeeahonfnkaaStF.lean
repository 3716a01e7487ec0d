/- Quaternions made of length one: their squares sum to One times One, within 2^32; what is near does not clamp. -/
import Derived.Test.YtdleeeahonfnkaaStD
namespace Go.Proofs.Ytdleeeahonfnkaa.SX
open Go Go.RowKit
noncomputable section
theorem lenL_eq (l : List Int) : lenL l = satv (Nl l) := by unfold lenL; rw [rootF_eq]; rfl
theorem lenL_bd (l : List Int) : lenL l ≤ 1152921504606846976 ∧ satv (lenL l) = lenL l := by
  have h1 : lenL l ≤ 1152921504606846976 := satv_hi _
  have h2 : -1152921504606846976 ≤ lenL l := satv_lo _
  exact ⟨h1, (satv_in h2 h1).1⟩
theorem byL_eq (l : List Int) : byL l = l.map fun a => U 4 [a, lenL l, 30] := rfl
theorem absL_le : ∀ (L : List Int) (B : Int), 0 ≤ B → B ≤ 1152921504606846976 → (∀ b ∈ L, -B ≤ b ∧ b ≤ B) → absL L ≤ (L.length : Int) * B
  | [], B, _, _, _ => by simp [absL]
  | b :: L, B, h0, hB, hL => by
    have h8 := absL_le L B h0 hB (fun c hc => hL c (List.mem_cons_of_mem _ hc))
    have h9 := hL b (List.mem_cons_self ..)
    simp only [absL, List.length_cons]
    rw [(satv_in (a := b) (by omega) (by omega)).1, Int.natCast_add, Int.add_mul]
    omega
theorem unit_nums {al : List Int} (hl : al.length ≤ 4) (hn : 1 ≤ lenL al) :
    (1152921504606846976 - 4294967296 ≤ Nm.sq (byL (byL al)) ∧ Nm.sq (byL (byL al)) ≤ 1152921504606846976 + 4294967296) ∧ (∀ q ∈ byL al, -1073741824 ≤ q ∧ q ≤ 1073741824) ∧ 1 ≤ lenL (byL al) := by
  have n2 := (lenL_bd al).1
  have hal : ∀ a ∈ al, -(lenL al) ≤ satv a ∧ satv a ≤ lenL al := fun a ha => by rw [lenL_eq]; exact len_ge ha
  obtain ⟨k1, k2⟩ := near_dv hn n2 _ hal
  rw [← byL_eq] at k1 k2
  have hS := sp_of al
  rw [sqL_sq] at hS
  have hlow : lenL al * lenL al - lenL al < Nm.sq (al.map satv) := by
    have h0 := hS.nn
    have hle : lenL al ≤ Nl al := by rw [lenL_eq]; unfold satv; (repeat' split) <;> omega
    have hlt : Nl al * Nl al - Nl al < Nm.sq (al.map satv) := by
      rcases hS.lo with h5 | h5
      · omega
      · exact h5
    generalize Nl al = R at *
    generalize lenL al = N at *
    have := Int.mul_le_mul hle (show N - 1 ≤ R - 1 by omega) (by omega) (by omega)
    rw [Int.mul_sub, Int.mul_sub, Int.mul_one, Int.mul_one] at this
    omega
  have hbl : (byL al).length ≤ 4 := by rw [byL_eq, List.length_map]; exact hl
  generalize byL al = Q at *
  have hsat : Q.map satv = Q := by
    clear k1 hbl
    induction Q with
    | nil => rfl
    | cons b L ih =>
      have := k2 b (List.mem_cons_self ..)
      rw [List.map_cons, (satv_in (by omega) (by omega)).1, ih (fun c hc => k2 c (List.mem_cons_of_mem _ hc))]
  have hT := sp_of Q
  rw [sqL_sq, hsat] at hT
  have mlow := Nm.unit_low hn k1 hbl hlow hT
  have mhi : Nl Q ≤ 1152921504606846976 := by
    have h6 := hyp_le Q
    have h7 := absL_le Q 1073741824 (by omega) (by omega) k2
    have h9 : (Q.length : Int) ≤ 4 := by omega
    have := Int.mul_le_mul_of_nonneg_right h9 (show (0 : Int) ≤ 1073741824 by omega)
    have : Nl Q ≤ absL Q := h6
    omega
  have e5 : lenL Q = Nl Q := by rw [lenL_eq, (satv_in (by omega) mhi).1]
  rw [← e5] at hT mlow mhi
  have hql : ∀ a ∈ Q, -(lenL Q) ≤ satv a ∧ satv a ≤ lenL Q := fun a ha => by rw [lenL_eq]; exact len_ge ha
  obtain ⟨r1, _⟩ := near_dv (by omega) mhi _ hql
  rw [← byL_eq, hsat] at r1
  exact ⟨Nm.unit_near hn k1 hbl hlow hT r1, k2, by omega⟩
theorem noneL_iff : ∀ l : List Int, noneL l = true ↔ ∀ a ∈ l, a = 0
  | [] => by simp [noneL]
  | a :: l => by
    have := noneL_iff l
    unfold noneL at *
    rw [List.all_cons, Bool.and_eq_true, this, ieq_iff, decide_eq_true_eq]
    simp
theorem len_pos {l : List Int} (h : noneL (l.map satv) = false) : 1 ≤ lenL l := by
  have hne : ∃ a ∈ l, satv a ≠ 0 := by
    apply Classical.byContradiction
    intro c
    have : noneL (l.map satv) = true := (noneL_iff _).2 fun a ha => by
      obtain ⟨b, hb, rfl⟩ := List.mem_map.1 ha
      apply Classical.byContradiction
      intro d
      exact c ⟨b, hb, d⟩
    rw [this] at h; cases h
  obtain ⟨a, ha, h0⟩ := hne
  have := len_ge ha
  rw [lenL_eq]
  omega
theorem map_satv_satv (l : List Int) : (l.map satv).map satv = l.map satv := by
  rw [List.map_map]
  refine List.map_congr_left fun a _ => ?_
  exact (satv_in (satv_lo a) (satv_hi a)).1
theorem sqS_list : ∀ {l : List Int}, l.length = 4 → sqS (cellF l) 4 = Nm.sq l
  | [a, b, c, d], _ => by
    show (((0 + a * a) + b * b) + c * c) + d * d = ((((0 + d * d) + c * c) + b * b) + a * a)
    omega
theorem unitNs_near {l : List Int} (hl : l.length = 4) : nearQ (cellF (unitNs l)) = true := by
  unfold unitNs
  cases h : noneL (l.map satv)
  · rw [cond_false]
    have h1 : 1 ≤ lenL (l.map satv) := len_pos (by rw [map_satv_satv]; exact h)
    obtain ⟨⟨h2, h3⟩, _⟩ := unit_nums (al := l.map satv) (by rw [List.length_map]; omega) h1
    rw [nearQ_iff, sqS_list (by simp [byL, hl])]
    omega
  · rw [cond_true]; rfl
theorem unitNs_len {l : List Int} (hl : l.length = 4) : (unitNs l).length = 4 := by
  unfold unitNs
  cases noneL (l.map satv)
  · simp [byL, hl]
  · rfl
theorem near_bd {l : List Int} (hl : l.length = 4) (h : nearQ (cellF l) = true) : ∀ a ∈ l, -1073741840 ≤ a ∧ a ≤ 1073741840 := fun a ha => by
  obtain ⟨j, hj, rfl⟩ := List.mem_iff_getElem.1 ha
  have e : cellF l j = l[j] := by simp [cellF, List.getD, hj]
  rw [← e]
  unfold nearQ at h
  simp only [Bool.and_eq_true] at h
  match j, (show j < 4 by omega) with
  | 0, _ => exact (smallB_iff _).1 h.1
  | 1, _ => exact (smallB_iff _).1 h.2.1
  | 2, _ => exact (smallB_iff _).1 h.2.2.1
  | 3, _ => exact (smallB_iff _).1 h.2.2.2.1
theorem byH_no {l : List Int} (hl : l.length ≤ 4) (hb : ∀ a ∈ l, -1073741840 ≤ a ∧ a ≤ 1073741840) (hn : 1 ≤ lenL l) : byH l = false := by
  have h7 := absL_le l 1073741840 (by omega) (by omega) hb
  have h9 : (l.length : Int) ≤ 4 := by omega
  have h8 := Int.mul_le_mul_of_nonneg_right h9 (show (0 : Int) ≤ 1073741840 by omega)
  have h6 : Nl l ≤ absL l := hyp_le l
  have h5 : 0 ≤ Nl l := Int.natCast_nonneg _
  have e : ((rootF (sqL l).toNat : Nat) : Int) = Nl l := by rw [rootF_eq]; rfl
  have hA : anyL l = false := by
    clear h7 h9 h8 h6 e hl hn h5
    induction l with
    | nil => rfl
    | cons b L ih =>
      have := hb b (List.mem_cons_self ..)
      have h := ih (fun c hc => hb c (List.mem_cons_of_mem _ hc))
      simp only [anyL, h, Bool.or_false, (satv_in (a := b) (by omega) (by omega)).2]
  unfold byH
  rw [hA, e, (satv_in (a := Nl l) (by omega) (by omega)).2, Bool.false_or, Bool.false_or]
  rw [List.any_eq_false]
  intro a ha
  have h1 := hb a ha
  have n2 := lenL_bd l
  have hal : -(lenL l) ≤ satv a ∧ satv a ≤ lenL l := by rw [lenL_eq]; exact len_ge ha
  have hd := divZ_near (v := satv a * 1073741824) (d := lenL l) hn
  have hc := Nm.cap_of hn (by omega) hal hd
  have e1 : sath (lenL l) = false := (satv_in (by omega) n2.1).2
  rw [e1, (satv_in (a := a) (by omega) (by omega)).2, n2.2]
  unfold divh
  rw [if_neg (by omega), (satv_in (by omega) (by omega)).2]
  simp
theorem unit_nohit {l : List Int} (hl : l.length = 4) (h : nearQ (cellF l) = true) : unitNH l = false := by
  have hb := near_bd hl h
  have e : l.map satv = l := by
    have : ∀ L : List Int, (∀ a ∈ L, -1073741840 ≤ a ∧ a ≤ 1073741840) → L.map satv = L := fun L => by
      induction L with
      | nil => intro _; rfl
      | cons b L ih =>
        intro hL
        have h1 := hL b (List.mem_cons_self ..)
        rw [List.map_cons, (satv_in (by omega) (by omega)).1, ih (fun c hc => hL c (List.mem_cons_of_mem _ hc))]
    exact this l hb
  have hA : anyL l = false := by
    have : ∀ L : List Int, (∀ a ∈ L, -1073741840 ≤ a ∧ a ≤ 1073741840) → anyL L = false := fun L => by
      induction L with
      | nil => intro _; rfl
      | cons b L ih =>
        intro hL
        have h1 := hL b (List.mem_cons_self ..)
        simp only [anyL, ih (fun c hc => hL c (List.mem_cons_of_mem _ hc)), Bool.or_false, (satv_in (a := b) (by omega) (by omega)).2]
    exact this l hb
  unfold unitNH
  rw [hA, Bool.false_or, e]
  cases hz : noneL l
  · rw [cond_false]
    have h1 : 1 ≤ lenL l := len_pos (by rw [e]; exact hz)
    obtain ⟨_, h2, h3⟩ := unit_nums (al := l) (by omega) h1
    rw [byH_no (by omega) hb h1, byH_no (by simp [byL]; omega) (fun a ha => by have := h2 a ha; omega) h3]
    rfl
  · rfl
/-! ### The contracts' numbers are these -/
theorem lenF_list (f : Nat → Int) : lenF f = lenL [f 0, f 1, f 2, f 3] := by
  have e : sumQ f 4 = sqL [f 0, f 1, f 2, f 3] := by
    simp only [sumQ, sqL]; omega
  unfold lenF lenL
  rw [e, rootF_eq]
theorem stepU_list (f : Nat → Int) : [stepU f 0, stepU f 1, stepU f 2, stepU f 3] = byL [f 0, f 1, f 2, f 3] := by
  unfold stepU byF
  rw [lenF_list]; rfl
theorem stepO_list (f : Nat → Int) : stepO f = byH [f 0, f 1, f 2, f 3] := by
  have e : sumQ f 4 = sqL [f 0, f 1, f 2, f 3] := by
    simp only [sumQ, sqL]; omega
  have e2 : anyS f 4 = anyL [f 0, f 1, f 2, f 3] := by
    simp only [anyS, anyL, Bool.false_or]
    cases sath (f 0) <;> cases sath (f 1) <;> cases sath (f 2) <;> cases sath (f 3) <;> rfl
  unfold stepO lenO byH
  rw [e2, e, lenF_list, rootF_eq]
  congr 1
  simp only [byO, List.any_cons, List.any_nil, Bool.or_false, Bool.false_or, Bool.or_assoc]
  rfl
theorem zeroB_list (f : Nat → Int) : zeroB f = noneL [f 0, f 1, f 2, f 3] := by
  rw [Bool.eq_iff_iff, noneL_iff]
  unfold zeroB
  rw [eqB_iff]
  constructor
  · intro h a ha
    simp only [List.mem_cons, List.not_mem_nil, or_false] at ha
    rcases ha with rfl | rfl | rfl | rfl
    · exact h 0 (by omega)
    · exact h 1 (by omega)
    · exact h 2 (by omega)
    · exact h 3 (by omega)
  · intro h k hk
    match k, hk with
    | 0, _ => exact h _ (by simp)
    | 1, _ => exact h _ (by simp)
    | 2, _ => exact h _ (by simp)
    | 3, _ => exact h _ (by simp)
theorem unitF_list (f : Nat → Int) : [unitF f 0, unitF f 1, unitF f 2, unitF f 3] = unitNs [f 0, f 1, f 2, f 3] := by
  unfold unitF unitNs
  have e : zeroB (satF f) = noneL ([f 0, f 1, f 2, f 3].map satv) := zeroB_list (satF f)
  rw [e]
  cases noneL ([f 0, f 1, f 2, f 3].map satv)
  · simp only [cond_false]
    rw [stepU_list, stepU_list]; rfl
  · rfl
theorem unitH_list (f : Nat → Int) : unitH f = unitNH [f 0, f 1, f 2, f 3] := by
  unfold unitH unitNH
  have e : zeroB (satF f) = noneL ([f 0, f 1, f 2, f 3].map satv) := zeroB_list (satF f)
  have e2 : satO f 4 = anyL [f 0, f 1, f 2, f 3] := by
    simp only [satO, anyL, Bool.false_or]
    cases sath (f 0) <;> cases sath (f 1) <;> cases sath (f 2) <;> cases sath (f 3) <;> rfl
  rw [e, e2, stepO_list, stepO_list, stepU_list]; rfl
theorem list4 {l : List Int} (hl : l.length = 4) : [cellF l 0, cellF l 1, cellF l 2, cellF l 3] = l := by
  match l, hl with
  | [a, b, c, d], _ => rfl
theorem unitF_at {l : List Int} (hl : l.length = 4) {k : Nat} (hk : k < 4) : unitF (cellF l) k = clampv ((unitNs l).getD k 0) (-1073741840) 1073741840 := by
  have h := unitF_list (cellF l)
  rw [list4 hl] at h
  have hn := near_bd (unitNs_len hl) (unitNs_near hl)
  rw [← h] at hn ⊢
  match k, hk with
  | 0, _ => have := hn (unitF (cellF l) 0) (by simp); show _ = clampv (unitF (cellF l) 0) _ _; unfold clampv; (repeat' split) <;> omega
  | 1, _ => have := hn (unitF (cellF l) 1) (by simp); show _ = clampv (unitF (cellF l) 1) _ _; unfold clampv; (repeat' split) <;> omega
  | 2, _ => have := hn (unitF (cellF l) 2) (by simp); show _ = clampv (unitF (cellF l) 2) _ _; unfold clampv; (repeat' split) <;> omega
  | 3, _ => have := hn (unitF (cellF l) 3) (by simp); show _ = clampv (unitF (cellF l) 3) _ _; unfold clampv; (repeat' split) <;> omega
theorem unitNH_at {l : List Int} (hl : l.length = 4) : unitH (cellF l) = unitNH l := by
  rw [unitH_list, list4 hl]
end
end Go.Proofs.Ytdleeeahonfnkaa.SX
