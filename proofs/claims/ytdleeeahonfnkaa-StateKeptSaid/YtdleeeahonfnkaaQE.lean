/- The document's own numbers of 128 bits with a sign: a size divided by a power of two. -/
import Derived.Test.YtdleeeahonfnkaaQD
namespace Go.Proofs.Ytdleeeahonfnkaa
open Go.RowKit

theorem made3 (w : World) (x y z : Array Value) (t t' t'' : TypeId) {W : World} (hW : ((w.alloc (.cells x t)).alloc (.cells y t')).alloc (.cells z t'') = W) :
    W.heap[w.heap.size]? = some (.cells x t (0, 0)) ∧ W.heap[w.heap.size + 1]? = some (.cells y t' (0, 0)) ∧ W.heap[w.heap.size + 1 + 1]? = some (.cells z t'' (0, 0)) ∧ W.heap.size = w.heap.size + 3 ∧ Below w.heap.size w W := by
  subst hW
  have k0 := heap_alloc_new w (.cells x t)
  have B0 := (Below.refl w.heap.size w).alloc (Nat.le_refl _) (.cells x t)
  have s0 : (w.alloc (.cells x t)).heap.size = w.heap.size + 1 := by simp
  generalize World.alloc w _ = W0 at *
  have k1 := heap_alloc_new W0 (.cells y t')
  have B1 := (Below.refl W0.heap.size W0).alloc (Nat.le_refl _) (.cells y t')
  have s1 : (W0.alloc (.cells y t')).heap.size = w.heap.size + 1 + 1 := by simp; omega
  generalize World.alloc W0 _ = W1 at *
  have k2 := heap_alloc_new W1 (.cells z t'')
  have B2 := (Below.refl W1.heap.size W1).alloc (Nat.le_refl _) (.cells z t'')
  have s2 : (W1.alloc (.cells z t'')).heap.size = w.heap.size + 3 := by simp; omega
  generalize World.alloc W1 _ = W2 at *
  rw [s0] at k1
  rw [s1] at k2
  exact ⟨(B2.block _ (by omega)).trans ((B1.block _ (by omega)).trans k0), (B2.block _ (by omega)).trans k1, k2, s2, (B0.trans (B1.mono (by omega))).trans (B2.mono (by omega))⟩
theorem q_shift_zero (n : Int) (b : Bool) (w : World) :
    Calls Try.prog 123 #[Qv b n, .int .i64 0] w fun e w' => e = .returned (Qv b n) ∧ Below w.heap.size w w' := by
  go_enter Try.func123, Try.ntmps123
  go_wp2_with fail
  exact bodyPost_ret (v := Qv b n) (by simp [results, Try.results123, go_sem]) rfl ⟨rfl, ((Below.refl _ _).alloc (Nat.le_refl _) _).alloc (by simp) _⟩
theorem rq_pos (n s : Nat) (h : 1 ≤ s) : rq n s = (n + 2 ^ (s - 1)) / 2 ^ s := by unfold rq halfOf; rw [if_neg (by omega)]
theorem inq_nat {n : Nat} (h : n < 340282366920938463463374607431768211456) : InQ n := ⟨by omega, by omega⟩
theorem add_at (n p : Nat) (h l : Int) (hh : h = wh p) (hl : l = wl p) (b : Bool) (w : World) (hs : n + p < 340282366920938463463374607431768211456) :
    Calls Try.prog 120 #[Qv b n, .agg #[.int .u64 h, .int .u64 l, .bool b]] w fun e w' => e = .returned (Qv b ((n + p : Nat) : Int)) ∧ Below w.heap.size w w' := by
  subst hh hl
  exact q_add_same n p b w (inq_nat (by omega)) (inq_nat (by omega)) (inq_nat hs)
set_option maxHeartbeats 1000000 in
theorem q_shift_far (n s : Nat) (b : Bool) (w : World) (hs : 65 ≤ s) (hs2 : s ≤ 126) (hn : n + 2 ^ (s - 1) < 340282366920938463463374607431768211456) :
    Calls Try.prog 123 #[Qv b n, .int .i64 s] w fun e w' => e = .returned (Qv b ((rq n s : Nat) : Int)) ∧ Below w.heap.size w w' := by
  have g1 : ¬ (s : Int) = 0 := by omega
  have g2 : (64 : Int) ≤ s - 1 := by omega
  have g3 : (64 : Int) ≤ s := by omega
  have g4 : IntKind.i64.wrap ((s : Int) - 65) = ((s - 65 : Nat) : Int) := by rw [IntKind.wrap_i64]; omega
  have g5 : IntKind.i64.wrap ((s : Int) - 64) = ((s - 64 : Nat) : Int) := by rw [IntKind.wrap_i64]; omega
  have HA := Lib.hid (fun w => add_at n (2 ^ (s - 1)) _ _ (half_far s hs hs2).1 (half_far s hs hs2).2 b w hn)
  have HE := Lib.hid (over_far (n + 2 ^ (s - 1)) s (by omega) hn)
  rw [rq_pos n s (by omega)]
  clear hn
  generalize hN : n + 2 ^ (s - 1) = M at *
  go_enter Try.func123, Try.ntmps123
  go_wp2_with fail
  generalize hW : World.alloc _ _ = W
  obtain ⟨e0, e1, _, hw, hB⟩ := made3 w _ _ _ _ _ _ hW
  clear hW
  refine (HA.out _).mono ?_
  rintro e w1 ⟨rfl, hb⟩
  have e0 := (hb.block _ (by omega)).trans e0
  have e1 := (hb.block _ (by omega)).trans e1
  have a0 : w1.cell? ⟨w.heap.size, 0, none⟩ = some (.int .u64 (wh n)) := by rw [cell_of_row w1 _ _ _ _ _ e0]; rfl
  have a1 : w1.cell? ⟨w.heap.size, 1, none⟩ = some (.int .u64 (wl n)) := by rw [cell_of_row w1 _ _ _ _ _ e0]; rfl
  have a2 : w1.cell? ⟨w.heap.size, 2, none⟩ = some (.bool b) := by rw [cell_of_row w1 _ _ _ _ _ e0]; rfl
  have ga : ∀ o, w1.frozen? ⟨w.heap.size, o, none⟩ = false := fun o => by simp [World.frozen?, e0]
  have d0 : w1.cell? ⟨w.heap.size + 1, 0, none⟩ = some (.int .u64 0) := by rw [cell_of_row w1 _ _ _ _ _ e1]; rfl
  have d1 : w1.cell? ⟨w.heap.size + 1, 1, none⟩ = some (.int .u64 0) := by rw [cell_of_row w1 _ _ _ _ _ e1]; rfl
  have d2 : w1.cell? ⟨w.heap.size + 1, 2, none⟩ = some (.bool false) := by rw [cell_of_row w1 _ _ _ _ _ e1]; rfl
  have g : ∀ o, w1.frozen? ⟨w.heap.size + 1, o, none⟩ = false := fun o => by simp [World.frozen?, e1]
  have HB := hB.trans (hb.mono (by omega))
  clear e0 e1 hb hB hw
  go_wp2_with fail
  refine bodyPost_ret (v := .agg #[.int .u64 0, .int .u64 (wh M / 2 ^ (s - 64)), .bool b]) (by simp [results, Try.results123, go_sem, d0, d1, d2]) rfl ⟨qv_eq HE.out.1 HE.out.2 rfl, (((((HB.setCell (by simp <;> omega) _).setCell (by simp <;> omega) _).setCell (by simp <;> omega) _).setCell (by simp <;> omega) _).setCell (by simp <;> omega) _).setCell (by simp <;> omega) _⟩
set_option maxHeartbeats 1000000 in
theorem q_shift_near (n s : Nat) (b : Bool) (w : World) (hs : 1 ≤ s) (hs2 : s < 64) (hn : n + 2 ^ (s - 1) < 340282366920938463463374607431768211456) :
    Calls Try.prog 123 #[Qv b n, .int .i64 s] w fun e w' => e = .returned (Qv b ((rq n s : Nat) : Int)) ∧ Below w.heap.size w w' := by
  have g1 : ¬ (s : Int) = 0 := by omega
  have g2 : ¬ (64 : Int) ≤ s - 1 := by omega
  have g3 : ¬ (64 : Int) ≤ s := by omega
  have g4 : IntKind.i64.wrap ((s : Int) - 1) = ((s - 1 : Nat) : Int) := by rw [IntKind.wrap_i64]; omega
  have g5 : IntKind.i64.wrap (64 - (s : Int)) = ((64 - s : Nat) : Int) := by rw [IntKind.wrap_i64]; omega
  have HA := Lib.hid (fun w => add_at n (2 ^ (s - 1)) _ _ (half_near s hs (by omega)).1 (half_near s hs (by omega)).2 b w hn)
  have HE := Lib.hid (over_near (n + 2 ^ (s - 1)) s hs2 hn)
  rw [rq_pos n s (by omega)]
  clear hn
  generalize hN : n + 2 ^ (s - 1) = M at *
  go_enter Try.func123, Try.ntmps123
  go_wp2_with fail
  generalize hW : World.alloc _ _ = W
  obtain ⟨e0, e1, _, hw, hB⟩ := made3 w _ _ _ _ _ _ hW
  clear hW
  refine (HA.out _).mono ?_
  rintro e w1 ⟨rfl, hb⟩
  have e0 := (hb.block _ (by omega)).trans e0
  have e1 := (hb.block _ (by omega)).trans e1
  have a0 : w1.cell? ⟨w.heap.size, 0, none⟩ = some (.int .u64 (wh n)) := by rw [cell_of_row w1 _ _ _ _ _ e0]; rfl
  have a1 : w1.cell? ⟨w.heap.size, 1, none⟩ = some (.int .u64 (wl n)) := by rw [cell_of_row w1 _ _ _ _ _ e0]; rfl
  have a2 : w1.cell? ⟨w.heap.size, 2, none⟩ = some (.bool b) := by rw [cell_of_row w1 _ _ _ _ _ e0]; rfl
  have ga : ∀ o, w1.frozen? ⟨w.heap.size, o, none⟩ = false := fun o => by simp [World.frozen?, e0]
  have d0 : w1.cell? ⟨w.heap.size + 1, 0, none⟩ = some (.int .u64 0) := by rw [cell_of_row w1 _ _ _ _ _ e1]; rfl
  have d1 : w1.cell? ⟨w.heap.size + 1, 1, none⟩ = some (.int .u64 0) := by rw [cell_of_row w1 _ _ _ _ _ e1]; rfl
  have d2 : w1.cell? ⟨w.heap.size + 1, 2, none⟩ = some (.bool false) := by rw [cell_of_row w1 _ _ _ _ _ e1]; rfl
  have g : ∀ o, w1.frozen? ⟨w.heap.size + 1, o, none⟩ = false := fun o => by simp [World.frozen?, e1]
  have HB := hB.trans (hb.mono (by omega))
  clear e0 e1 hb hB hw
  go_wp2_with fail
  refine bodyPost_ret (v := .agg #[.int .u64 (wh M / 2 ^ s), .int .u64 (bits .or .u64 (wl M / 2 ^ s) (IntKind.u64.wrap (wh M * 2 ^ (64 - s)))), .bool b]) (by simp [results, Try.results123, go_sem, d0, d1, d2]) rfl ⟨qv_eq HE.out.1 HE.out.2 rfl, (((((HB.setCell (by simp <;> omega) _).setCell (by simp <;> omega) _).setCell (by simp <;> omega) _).setCell (by simp <;> omega) _).setCell (by simp <;> omega) _).setCell (by simp <;> omega) _⟩
set_option maxHeartbeats 1000000 in
theorem q_shift_64 (n : Nat) (b : Bool) (w : World) (hn : n + 9223372036854775808 < 340282366920938463463374607431768211456) :
    Calls Try.prog 123 #[Qv b n, .int .i64 64] w fun e w' => e = .returned (Qv b ((rq n 64 : Nat) : Int)) ∧ Below w.heap.size w w' := by
  have HA := Lib.hid (fun w => add_at n 9223372036854775808 0 9223372036854775808 rfl rfl b w hn)
  have HE := Lib.hid (over_far (n + 9223372036854775808) 64 (by omega) hn)
  rw [show rq n 64 = (n + 9223372036854775808) / 2 ^ 64 from rfl]
  clear hn
  generalize hN : n + 9223372036854775808 = M at *
  go_enter Try.func123, Try.ntmps123
  go_wp2_with fail
  generalize hW : World.alloc _ _ = W
  obtain ⟨e0, e1, _, hw, hB⟩ := made3 w _ _ _ _ _ _ hW
  clear hW
  refine (HA.out _).mono ?_
  rintro e w1 ⟨rfl, hb⟩
  have e0 := (hb.block _ (by omega)).trans e0
  have e1 := (hb.block _ (by omega)).trans e1
  have a0 : w1.cell? ⟨w.heap.size, 0, none⟩ = some (.int .u64 (wh n)) := by rw [cell_of_row w1 _ _ _ _ _ e0]; rfl
  have a1 : w1.cell? ⟨w.heap.size, 1, none⟩ = some (.int .u64 (wl n)) := by rw [cell_of_row w1 _ _ _ _ _ e0]; rfl
  have a2 : w1.cell? ⟨w.heap.size, 2, none⟩ = some (.bool b) := by rw [cell_of_row w1 _ _ _ _ _ e0]; rfl
  have ga : ∀ o, w1.frozen? ⟨w.heap.size, o, none⟩ = false := fun o => by simp [World.frozen?, e0]
  have d0 : w1.cell? ⟨w.heap.size + 1, 0, none⟩ = some (.int .u64 0) := by rw [cell_of_row w1 _ _ _ _ _ e1]; rfl
  have d1 : w1.cell? ⟨w.heap.size + 1, 1, none⟩ = some (.int .u64 0) := by rw [cell_of_row w1 _ _ _ _ _ e1]; rfl
  have d2 : w1.cell? ⟨w.heap.size + 1, 2, none⟩ = some (.bool false) := by rw [cell_of_row w1 _ _ _ _ _ e1]; rfl
  have g : ∀ o, w1.frozen? ⟨w.heap.size + 1, o, none⟩ = false := fun o => by simp [World.frozen?, e1]
  have HB := hB.trans (hb.mono (by omega))
  clear e0 e1 hb hB hw
  go_wp2_with fail
  refine bodyPost_ret (v := .agg #[.int .u64 0, .int .u64 (wh M), .bool b]) (by simp [results, Try.results123, go_sem, d0, d1, d2]) rfl ⟨qv_eq HE.out.1 ((Int.ediv_one _).symm.trans HE.out.2) rfl, (((((HB.setCell (by simp <;> omega) _).setCell (by simp <;> omega) _).setCell (by simp <;> omega) _).setCell (by simp <;> omega) _).setCell (by simp <;> omega) _).setCell (by simp <;> omega) _⟩
theorem q_shift (n s : Nat) (b : Bool) (w : World) (hs : s ≤ 126) (hn : n + halfOf s < 340282366920938463463374607431768211456) :
    Calls Try.prog 123 #[Qv b n, .int .i64 s] w fun e w' => e = .returned (Qv b ((rq n s : Nat) : Int)) ∧ Below w.heap.size w w' := by
  rcases Nat.eq_zero_or_pos s with h | h
  · subst h
    rw [show rq n 0 = n by unfold rq halfOf; simp]
    exact q_shift_zero n b w
  · have e : halfOf s = 2 ^ (s - 1) := by unfold halfOf; rw [if_neg (by omega)]
    rw [e] at hn
    rcases Nat.lt_trichotomy s 64 with h1 | h1 | h1
    · exact q_shift_near n s b w h h1 hn
    · subst h1; exact q_shift_64 n b w hn
    · exact q_shift_far n s b w h1 hs hn
end Go.Proofs.Ytdleeeahonfnkaa
