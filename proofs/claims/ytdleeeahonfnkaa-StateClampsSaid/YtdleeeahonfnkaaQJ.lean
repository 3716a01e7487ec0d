/- The document's own numbers of 128 bits with a sign: a size divided, rounded. -/
import Derived.Test.YtdleeeahonfnkaaQI
import Derived.Deep.DeepCutAuto
namespace Go.Proofs.Ytdleeeahonfnkaa
open Go.RowKit

/-- The rows of 'divided'. -/
structure D3 (w wr : World) (n Q : Nat) (b : Bool) : Prop where
  e0 : wr.heap[w.heap.size]? = some (.cells #[.int .u64 (wh n), .int .u64 (wl n), .bool b] 127 (0, 0))
  e1 : wr.heap[w.heap.size + 1]? = some (.cells #[.int .u64 0, .int .u64 0, .bool false] 127 (0, 0))
  e2 : wr.heap[w.heap.size + 1 + 1]? = some (.cells #[.int .u64 (wh Q), .int .u64 (wl Q), .bool b] 127 (0, 0))
  below : Below w.heap.size w wr
  big : w.heap.size + 3 ≤ wr.heap.size
structure D3c (w wr : World) (n Q : Nat) (b : Bool) : Prop where
  a0 : wr.cell? ⟨w.heap.size, 0, none⟩ = some (.int .u64 (wh n))
  a1 : wr.cell? ⟨w.heap.size, 1, none⟩ = some (.int .u64 (wl n))
  a2 : wr.cell? ⟨w.heap.size, 2, none⟩ = some (.bool b)
  d0 : wr.cell? ⟨w.heap.size + 1, 0, none⟩ = some (.int .u64 0)
  d1 : wr.cell? ⟨w.heap.size + 1, 1, none⟩ = some (.int .u64 0)
  d2 : wr.cell? ⟨w.heap.size + 1, 2, none⟩ = some (.bool false)
  q0 : wr.cell? ⟨w.heap.size + 1 + 1, 0, none⟩ = some (.int .u64 (wh Q))
  q1 : wr.cell? ⟨w.heap.size + 1 + 1, 1, none⟩ = some (.int .u64 (wl Q))
  q2 : wr.cell? ⟨w.heap.size + 1 + 1, 2, none⟩ = some (.bool b)
  gd : ∀ o, wr.frozen? ⟨w.heap.size + 1, o, none⟩ = false
  gq : ∀ o, wr.frozen? ⟨w.heap.size + 1 + 1, o, none⟩ = false
theorem D3.cells {w wr : World} {n Q : Nat} {b : Bool} (h : D3 w wr n Q b) : D3c w wr n Q b := by
  refine ⟨?_, ?_, ?_, ?_, ?_, ?_, ?_, ?_, ?_, fun o => by simp [World.frozen?, h.e1], fun o => by simp [World.frozen?, h.e2]⟩
  · rw [cell_of_row wr _ _ _ _ _ h.e0]; rfl
  · rw [cell_of_row wr _ _ _ _ _ h.e0]; rfl
  · rw [cell_of_row wr _ _ _ _ _ h.e0]; rfl
  · rw [cell_of_row wr _ _ _ _ _ h.e1]; rfl
  · rw [cell_of_row wr _ _ _ _ _ h.e1]; rfl
  · rw [cell_of_row wr _ _ _ _ _ h.e1]; rfl
  · rw [cell_of_row wr _ _ _ _ _ h.e2]; rfl
  · rw [cell_of_row wr _ _ _ _ _ h.e2]; rfl
  · rw [cell_of_row wr _ _ _ _ _ h.e2]; rfl
theorem D3.low {w wr : World} {n Q Q' : Nat} {b : Bool} (h : D3 w wr n Q b) {v : Int} (h1 : v = wl Q') (h2 : wh Q = wh Q') : D3 w (wr.setCell ⟨w.heap.size + 1 + 1, 1, none⟩ (.int .u64 v)) n Q' b := by
  refine ⟨?_, ?_, ?_, h.below.setCell (by simp <;> omega) _, by rw [size_set]; exact h.big⟩
  · rw [Below.heap_setCell _ _ _ _ (by simp <;> omega)]; exact h.e0
  · rw [Below.heap_setCell _ _ _ _ (by simp <;> omega)]; exact h.e1
  · rw [set_block h.e2, h1, ← h2]; rfl
theorem D3.high {w wr : World} {n Q Q' : Nat} {b : Bool} (h : D3 w wr n Q b) {v : Int} (h1 : v = wh Q') (h2 : wl Q = wl Q') : D3 w (wr.setCell ⟨w.heap.size + 1 + 1, 0, none⟩ (.int .u64 v)) n Q' b := by
  refine ⟨?_, ?_, ?_, h.below.setCell (by simp <;> omega) _, by rw [size_set]; exact h.big⟩
  · rw [Below.heap_setCell _ _ _ _ (by simp <;> omega)]; exact h.e0
  · rw [Below.heap_setCell _ _ _ _ (by simp <;> omega)]; exact h.e1
  · rw [set_block h.e2, h1, ← h2]; rfl
theorem D3.call {w wr w1 : World} {n Q : Nat} {b : Bool} (h : D3 w wr n Q b) (hb : Below wr.heap.size wr w1) : D3 w w1 n Q b := by
  have := h.big
  exact ⟨(hb.block _ (by omega)).trans h.e0, (hb.block _ (by omega)).trans h.e1, (hb.block _ (by omega)).trans h.e2, h.below.trans (hb.mono h.below.size), Nat.le_trans h.big hb.size⟩
theorem d_start (n d : Nat) (hn : n < 340282366920938463463374607431768211456) : n / 2 ^ 128 % d = 0 ∧ n / 2 ^ 128 / d * 2 ^ 128 = 0 := by
  have : n / 2 ^ 128 = 0 := Nat.div_eq_of_lt (by rw [show (2 : Nat) ^ 128 = 340282366920938463463374607431768211456 by decide]; exact hn)
  rw [this]
  simp
set_option maxRecDepth 100000 in
set_option maxHeartbeats 8000000 in
theorem q_divided (n d : Nat) (b : Bool) (w : World) (hn : n < 340282366920938463463374607431768211456) (hd : 0 < d) (hd2 : d ≤ 1152921504606846976) :
    Calls Try.prog 156 #[Qv b n, .int .u64 d] w fun e w' => e = .returned (Qv b ((dq n d : Nat) : Int)) ∧ Below w.heap.size w w' := by
  go_enter Try.func156, Try.ntmps156
  go_wp2_with fail
  generalize hW : World.alloc (World.alloc (World.alloc w _) _) _ = W
  have hS : D3 w W n 0 b := by
    obtain ⟨e0, e1, e2, e3, e4⟩ := made3 w _ _ _ _ _ _ hW
    exact ⟨e0, e1, e2, e4, by omega⟩
  clear hW
  go_loopw [6, 7] (fun s6 s7 wr => ∃ t : Nat, t ≤ 128 ∧ s6 = .int .u64 ((n / 2 ^ t % d : Nat) : Int) ∧ s7 = .int .i64 ((t : Int) - 1) ∧ D3 w wr n (n / 2 ^ t / d * 2 ^ t) b) (fun _ s7 _ => (intOf s7 + 1).toNat)
  case atStart =>
    obtain ⟨e1, e2⟩ := d_start n d hn
    exact ⟨128, by omega, by rw [e1]; rfl, rfl, by rw [e2]; exact hS⟩
  case round =>
    clear hS
    obtain ⟨t, ht, rfl, rfl, hD⟩ := hrel
    by_cases h0 : t = 0
    · subst h0
      rw [show ((0 : Nat) : Int) - 1 = -1 by omega]
      rw [show n / 2 ^ 0 % d = n % d by simp, show n / 2 ^ 0 / d * 2 ^ 0 = n / d by simp] at *
      have hr := Nat.mod_lt n hd
      have hs : IntKind.u64.wrap ((d : Int) - ((n % d : Nat) : Int)) = ((d - n % d : Nat) : Int) := by rw [IntKind.wrap_u64]; omega
      have hql := Nat.div_le_self n d
      have HQ := Lib.hid (fun (h : d ≤ 2 * (n % d)) w => add_at (n / d) 1 0 1 rfl rfl b w (by
        have h2 : 2 ≤ d := by omega
        have : n / d ≤ n / 2 := Nat.div_le_div_left h2 (by omega)
        omega))
      have HD := Lib.hid (show dq n d = n / d + if d ≤ 2 * (n % d) then 1 else 0 from rfl)
      generalize n / d = Q at *
      generalize n % d = R at *
      by_cases hge : d ≤ 2 * R
      · have g1 : ((d - R : Nat) : Int) ≤ R := by omega
        have HV := Lib.hid (show Q + 1 = dq n d by rw [HD.out, if_pos hge])
        obtain ⟨a0, a1, a2, d0, d1, d2, q0, q1, q2, gd, gq⟩ := hD.cells
        go_wp2_with fail
        refine (HQ.out hge _).mono ?_
        rintro e w1 ⟨rfl, hb⟩
        have hD := hD.call hb
        rw [HV.out]
        clear a0 a1 a2 d0 d1 d2 q0 q1 q2 gd gq hb HQ HV HD
        have HB := hD.below
        obtain ⟨a0, a1, a2, d0, d1, d2, q0, q1, q2, gd, gq⟩ := hD.cells
        clear hD
        go_wp2_with fail
        exact bodyPost_ret (v := Qv b (dq n d : Nat)) (by simp [results, Try.results156, go_sem, d0, d1, d2]) rfl ⟨rfl, (((((HB.setCell (by simp <;> omega) _).setCell (by simp <;> omega) _).setCell (by simp <;> omega) _).setCell (by simp <;> omega) _).setCell (by simp <;> omega) _).setCell (by simp <;> omega) _⟩
      · have g1 : ¬ ((d - R : Nat) : Int) ≤ R := by omega
        have HV := Lib.hid (show Q = dq n d by rw [HD.out, if_neg hge]; rfl)
        have HB := hD.below
        obtain ⟨a0, a1, a2, d0, d1, d2, q0, q1, q2, gd, gq⟩ := hD.cells
        clear hD
        go_wp2_with fail
        exact bodyPost_ret (v := Qv b (Q : Nat)) (by simp [results, Try.results156, go_sem, d0, d1, d2]) rfl ⟨by rw [HV.out], ((HB.setCell (by simp <;> omega) _).setCell (by simp <;> omega) _).setCell (by simp <;> omega) _⟩
    · obtain ⟨i, rfl⟩ : ∃ i, t = i + 1 := ⟨t - 1, by omega⟩
      rw [show ((i + 1 : Nat) : Int) - 1 = (i : Int) by omega]
      have i0 : (0 : Int) ≤ i := by omega
      have hi : i < 128 := by omega
      have hA := Q2.and63 i hi
      have hlt := Q2.dR_lt n d i hd
      have hmod := Nat.mod_lt (n / 2 ^ (i + 1)) hd
      have hQn : n / 2 ^ (i + 1) / d * 2 ^ (i + 1) ≤ n := by
        rw [Nat.div_div_eq_div_mul, Nat.mul_comm (2 ^ (i + 1)) d, ← Nat.div_div_eq_div_mul]
        exact Nat.le_trans (Nat.div_mul_le_self _ _) (Nat.div_le_self _ _)
      have HG := Lib.hid (Q2.dR_ge n d i hd)
      have HN := Lib.hid (fun h => Q2.dR_no n d i hd (Nat.lt_of_not_le h))
      have HDR := Lib.hid (show 2 * (n / 2 ^ (i + 1) % d) + n / 2 ^ i % 2 = Q2.dR n d i from rfl)
      have hb2 : n / 2 ^ i % 2 < 2 := Nat.mod_lt _ (by omega)
      have HS := Lib.hid (fun h : d ≤ Q2.dR n d i => show IntKind.u64.wrap (((Q2.dR n d i : Nat) : Int) - d) = ((Q2.dR n d i - d : Nat) : Int) by rw [IntKind.wrap_u64]; omega)
      by_cases h64 : 64 ≤ i
      · have g1 : (64 : Int) ≤ i := by omega
        have e6 : i % 64 = i - 64 := by omega
        rw [e6] at hA
        have HO := Lib.hid (show bits .or .u64 (IntKind.u64.wrap (((n / 2 ^ (i + 1) % d : Nat) : Int) * 2)) (bits .and .u64 (wh n / 2 ^ (i - 64)) 1) = ((2 * (n / 2 ^ (i + 1) % d) + n / 2 ^ i % 2 : Nat) : Int) by
          rw [Q2.bit_hi n i h64 hn, ← Q2.or_even _ _ (by omega) hb2]
          congr 1
          rw [IntKind.wrap_u64]; omega)
        have HB := Lib.hid (Q2.set_hi (n / 2 ^ (i + 1) / d) i h64 hi (by omega))
        clear hmod hQn hb2
        generalize n / 2 ^ (i + 1) % d = R at *
        generalize Q2.dR n d i = D at *
        generalize n / 2 ^ (i + 1) / d * 2 ^ (i + 1) = Q at *
        obtain ⟨a0, a1, a2, d0, d1, d2, q0, q1, q2, gd, gq⟩ := hD.cells
        have hE := (show bits .or .u64 (IntKind.u64.wrap ((R : Int) * 2)) (bits .and .u64 (wh n / 2 ^ (i - 64)) 1) = ((D : Nat) : Int) by rw [HO.out]; exact congrArg _ HDR.out)
        by_cases hge : d ≤ D
        · have g2 : (d : Int) ≤ D := by omega
          have hs := HS.out hge
          go_wp2_with fail
          refine ⟨⟨i, by omega, ?_, rfl, ?_⟩, ?_⟩
          · rw [(HG.out hge).1]
          · have h := hD.high (HB.out.1) (HB.out.2)
            rw [(HG.out hge).2]
            exact h
          · show (((i : Int) - 1) + 1).toNat < ((i : Int) + 1).toNat
            omega
        · have g2 : ¬ (d : Int) ≤ D := by omega
          go_wp2_with fail
          refine ⟨⟨i, by omega, ?_, rfl, ?_⟩, ?_⟩
          · rw [(HN.out hge).1]
          · rw [(HN.out hge).2]; exact hD
          · show (((i : Int) - 1) + 1).toNat < ((i : Int) + 1).toNat
            omega
      · have g1 : ¬ (64 : Int) ≤ i := by omega
        have e6 : i % 64 = i := by omega
        rw [e6] at hA
        have HO := Lib.hid (show bits .or .u64 (IntKind.u64.wrap (((n / 2 ^ (i + 1) % d : Nat) : Int) * 2)) (bits .and .u64 (wl n / 2 ^ i) 1) = ((2 * (n / 2 ^ (i + 1) % d) + n / 2 ^ i % 2 : Nat) : Int) by
          rw [Q2.bit_lo n i (by omega), ← Q2.or_even _ _ (by omega) hb2]
          congr 1
          rw [IntKind.wrap_u64]; omega)
        have HB := Lib.hid (Q2.set_lo (n / 2 ^ (i + 1) / d) i (by omega))
        clear hmod hQn hb2
        generalize n / 2 ^ (i + 1) % d = R at *
        generalize Q2.dR n d i = D at *
        generalize n / 2 ^ (i + 1) / d * 2 ^ (i + 1) = Q at *
        obtain ⟨a0, a1, a2, d0, d1, d2, q0, q1, q2, gd, gq⟩ := hD.cells
        have hE := (show bits .or .u64 (IntKind.u64.wrap ((R : Int) * 2)) (bits .and .u64 (wl n / 2 ^ i) 1) = ((D : Nat) : Int) by rw [HO.out]; exact congrArg _ HDR.out)
        by_cases hge : d ≤ D
        · have g2 : (d : Int) ≤ D := by omega
          have hs := HS.out hge
          go_wp2_with fail
          refine ⟨⟨i, by omega, ?_, rfl, ?_⟩, ?_⟩
          · rw [(HG.out hge).1]
          · have h := hD.low (HB.out.1) (HB.out.2)
            rw [(HG.out hge).2]
            exact h
          · show (((i : Int) - 1) + 1).toNat < ((i : Int) + 1).toNat
            omega
        · have g2 : ¬ (d : Int) ≤ D := by omega
          go_wp2_with fail
          refine ⟨⟨i, by omega, ?_, rfl, ?_⟩, ?_⟩
          · rw [(HN.out hge).1]
          · rw [(HN.out hge).2]; exact hD
          · show (((i : Int) - 1) + 1).toNat < ((i : Int) + 1).toNat
            omega
end Go.Proofs.Ytdleeeahonfnkaa
