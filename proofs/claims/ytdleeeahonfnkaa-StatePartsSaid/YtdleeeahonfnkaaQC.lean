/- The document's own numbers of 128 bits with a sign: sums. -/
import Derived.Test.YtdleeeahonfnkaaQB
namespace Go.Proofs.Ytdleeeahonfnkaa
open Go.RowKit

theorem qv_eq {b c : Bool} {n x y : Int} (h1 : x = wh n) (h2 : y = wl n) (h3 : b = c) : Ending.returned (Value.agg #[.int .u64 x, .int .u64 y, .bool b]) = Ending.returned (Qv c n) := by rw [h1, h2, h3]
set_option maxHeartbeats 1000000 in
theorem q_add_same (n m : Int) (b : Bool) (w : World) (hn : InQ n) (hm : InQ m) (hs : InQ (n + m)) :
    Calls Try.prog 120 #[Qv b n, Qv b m] w fun e w' => e = .returned (Qv b (n + m)) ∧ Below w.heap.size w w' := by
  have l1 := qh_lo hn
  have l2 := qh_hi hn
  have l3 := qh_lo hm
  have l4 := qh_hi hm
  have HI := Lib.hid (And.intro hn (And.intro hm hs))
  clear hn hm hs
  by_cases h1 : IntKind.u64.wrap (wl n + wl m) < wl n
  · go_enter Try.func120, Try.ntmps120
    go_wp2_with fail
    refine bodyPost_ret (v := .agg #[.int .u64 (IntKind.u64.wrap (IntKind.u64.wrap (wh n + wh m) + 1)), .int .u64 (IntKind.u64.wrap (wl n + wl m)), .bool b]) (by simp [results, Try.results120, go_sem]) rfl ⟨qv_eq ?_ ?_ rfl, ((((Below.refl _ _).alloc (Nat.le_refl _) _).alloc (by simp) _).alloc (by simp <;> omega) _)⟩
    · obtain ⟨⟨_, _⟩, ⟨_, _⟩, ⟨_, _⟩⟩ := HI.out
      simp only [IntKind.wrap_u64] at *
      unfold wh wl at *
      omega
    · simp only [IntKind.wrap_u64] at *
      unfold wl at *
      omega
  · go_enter Try.func120, Try.ntmps120
    go_wp2_with fail
    refine bodyPost_ret (v := .agg #[.int .u64 (IntKind.u64.wrap (wh n + wh m)), .int .u64 (IntKind.u64.wrap (wl n + wl m)), .bool b]) (by simp [results, Try.results120, go_sem]) rfl ⟨qv_eq ?_ ?_ rfl, ((((Below.refl _ _).alloc (Nat.le_refl _) _).alloc (by simp) _).alloc (by simp <;> omega) _)⟩
    · obtain ⟨⟨_, _⟩, ⟨_, _⟩, ⟨_, _⟩⟩ := HI.out
      simp only [IntKind.wrap_u64] at *
      unfold wh wl at *
      omega
    · simp only [IntKind.wrap_u64] at *
      unfold wl at *
      omega
theorem three (w : World) (a b : Bool) (n m : Int) (t : TypeId) (c : Array Value) (t' : TypeId) {W : World} (hW : ((w.alloc (.cells #[.int .u64 (wh n), .int .u64 (wl n), .bool a] t)).alloc (.cells #[.int .u64 (wh m), .int .u64 (wl m), .bool b] t)).alloc (.cells c t') = W) :
    W.heap[w.heap.size]? = some (.cells #[.int .u64 (wh n), .int .u64 (wl n), .bool a] t (0, 0)) ∧ W.heap[w.heap.size + 1]? = some (.cells #[.int .u64 (wh m), .int .u64 (wl m), .bool b] t (0, 0)) ∧ W.heap[w.heap.size + 1 + 1]? = some (.cells c t' (0, 0)) ∧ W.heap.size = w.heap.size + 3 ∧ Below w.heap.size w W := by
  subst hW
  have k0 := heap_alloc_new w (.cells #[.int .u64 (wh n), .int .u64 (wl n), .bool a] t)
  have B0 := (Below.refl w.heap.size w).alloc (Nat.le_refl _) (.cells #[.int .u64 (wh n), .int .u64 (wl n), .bool a] t)
  have s0 : (w.alloc (.cells #[.int .u64 (wh n), .int .u64 (wl n), .bool a] t)).heap.size = w.heap.size + 1 := by simp
  generalize World.alloc w _ = W0 at *
  have k1 := heap_alloc_new W0 (.cells #[.int .u64 (wh m), .int .u64 (wl m), .bool b] t)
  have B1 := (Below.refl W0.heap.size W0).alloc (Nat.le_refl _) (.cells #[.int .u64 (wh m), .int .u64 (wl m), .bool b] t)
  have s1 : (W0.alloc (.cells #[.int .u64 (wh m), .int .u64 (wl m), .bool b] t)).heap.size = w.heap.size + 1 + 1 := by simp; omega
  generalize World.alloc W0 _ = W1 at *
  have k2 := heap_alloc_new W1 (.cells c t')
  have B2 := (Below.refl W1.heap.size W1).alloc (Nat.le_refl _) (.cells c t')
  have s2 : (W1.alloc (.cells c t')).heap.size = w.heap.size + 3 := by simp; omega
  generalize World.alloc W1 _ = W2 at *
  rw [s0] at k1
  rw [s1] at k2
  exact ⟨(B2.block _ (by omega)).trans ((B1.block _ (by omega)).trans k0), (B2.block _ (by omega)).trans k1, k2, s2, (B0.trans (B1.mono (by omega))).trans (B2.mono (by omega))⟩
set_option maxHeartbeats 1000000 in
theorem q_add_more (n m : Int) (b c : Bool) (hbc : (b == c) = false) (w : World) (hn : InQ n) (hm : InQ m) (hs : ¬ n < m) :
    Calls Try.prog 120 #[Qv b n, Qv c m] w fun e w' => e = .returned (Qv b (n - m)) ∧ Below w.heap.size w w' := by
  have l1 := qh_lo hn
  have l2 := qh_hi hn
  have l3 := qh_lo hm
  have l4 := qh_hi hm
  have HI := Lib.hid (And.intro hn (And.intro hm hs))
  have HL := Lib.hid (fun w => q_less n m b c w)
  have HF := Lib.hid (decide_eq_false hs)
  clear hn hm hs
  have h1 : wl n < wl m ∨ ¬ wl n < wl m := by omega
  rcases h1 with h1 | h1
  · go_enter Try.func120, Try.ntmps120
    go_wp2_with fail
    generalize hW : World.alloc _ _ = W
    obtain ⟨e0, e1, e2, hw, hB⟩ := three w _ _ n m _ _ _ hW
    clear hW
    refine (HL.out _).mono ?_
    rintro e w1 ⟨rfl, hb⟩
    rw [HF.out]
    have e0 := (hb.block _ (by omega)).trans e0
    have e1 := (hb.block _ (by omega)).trans e1
    have e2 := (hb.block _ (by omega)).trans e2
    have a0 : w1.cell? ⟨w.heap.size, 0, none⟩ = some (.int .u64 (wh n)) := by rw [cell_of_row w1 _ _ _ _ _ e0]; rfl
    have a1 : w1.cell? ⟨w.heap.size, 1, none⟩ = some (.int .u64 (wl n)) := by rw [cell_of_row w1 _ _ _ _ _ e0]; rfl
    have a2 : w1.cell? ⟨w.heap.size, 2, none⟩ = some (.bool b) := by rw [cell_of_row w1 _ _ _ _ _ e0]; rfl
    have b0 : w1.cell? ⟨w.heap.size + 1, 0, none⟩ = some (.int .u64 (wh m)) := by rw [cell_of_row w1 _ _ _ _ _ e1]; rfl
    have b1 : w1.cell? ⟨w.heap.size + 1, 1, none⟩ = some (.int .u64 (wl m)) := by rw [cell_of_row w1 _ _ _ _ _ e1]; rfl
    have b2 : w1.cell? ⟨w.heap.size + 1, 2, none⟩ = some (.bool c) := by rw [cell_of_row w1 _ _ _ _ _ e1]; rfl
    have d0 : w1.cell? ⟨w.heap.size + 1 + 1, 0, none⟩ = some (.int .u64 0) := by rw [cell_of_row w1 _ _ _ _ _ e2]; rfl
    have d1 : w1.cell? ⟨w.heap.size + 1 + 1, 1, none⟩ = some (.int .u64 0) := by rw [cell_of_row w1 _ _ _ _ _ e2]; rfl
    have d2 : w1.cell? ⟨w.heap.size + 1 + 1, 2, none⟩ = some (.bool false) := by rw [cell_of_row w1 _ _ _ _ _ e2]; rfl
    have g : ∀ o, w1.frozen? ⟨w.heap.size + 1 + 1, o, none⟩ = false := fun o => by simp [World.frozen?, e2]
    have HB := hB.trans (hb.mono (by omega))
    clear e0 e1 e2 hb hB hw
    go_wp2_with fail
    refine bodyPost_ret (v := .agg #[.int .u64 (IntKind.u64.wrap (IntKind.u64.wrap (wh n - wh m) - 1)), .int .u64 (IntKind.u64.wrap (wl n - wl m)), .bool b]) (by simp [results, Try.results120, go_sem, d0, d1, d2]) rfl ⟨qv_eq ?_ ?_ rfl, ((HB.setCell (by simp <;> omega) _).setCell (by simp <;> omega) _).setCell (by simp <;> omega) _⟩
    · obtain ⟨⟨_, _⟩, ⟨_, _⟩, _⟩ := HI.out
      clear HB HL HF a0 a1 a2 b0 b1 b2 d0 d1 d2 g
      simp only [IntKind.wrap_u64] at *
      unfold wh wl at *
      omega
    · simp only [IntKind.wrap_u64]
      unfold wl
      omega
  · go_enter Try.func120, Try.ntmps120
    go_wp2_with fail
    generalize hW : World.alloc _ _ = W
    obtain ⟨e0, e1, e2, hw, hB⟩ := three w _ _ n m _ _ _ hW
    clear hW
    refine (HL.out _).mono ?_
    rintro e w1 ⟨rfl, hb⟩
    rw [HF.out]
    have e0 := (hb.block _ (by omega)).trans e0
    have e1 := (hb.block _ (by omega)).trans e1
    have e2 := (hb.block _ (by omega)).trans e2
    have a0 : w1.cell? ⟨w.heap.size, 0, none⟩ = some (.int .u64 (wh n)) := by rw [cell_of_row w1 _ _ _ _ _ e0]; rfl
    have a1 : w1.cell? ⟨w.heap.size, 1, none⟩ = some (.int .u64 (wl n)) := by rw [cell_of_row w1 _ _ _ _ _ e0]; rfl
    have a2 : w1.cell? ⟨w.heap.size, 2, none⟩ = some (.bool b) := by rw [cell_of_row w1 _ _ _ _ _ e0]; rfl
    have b0 : w1.cell? ⟨w.heap.size + 1, 0, none⟩ = some (.int .u64 (wh m)) := by rw [cell_of_row w1 _ _ _ _ _ e1]; rfl
    have b1 : w1.cell? ⟨w.heap.size + 1, 1, none⟩ = some (.int .u64 (wl m)) := by rw [cell_of_row w1 _ _ _ _ _ e1]; rfl
    have b2 : w1.cell? ⟨w.heap.size + 1, 2, none⟩ = some (.bool c) := by rw [cell_of_row w1 _ _ _ _ _ e1]; rfl
    have d0 : w1.cell? ⟨w.heap.size + 1 + 1, 0, none⟩ = some (.int .u64 0) := by rw [cell_of_row w1 _ _ _ _ _ e2]; rfl
    have d1 : w1.cell? ⟨w.heap.size + 1 + 1, 1, none⟩ = some (.int .u64 0) := by rw [cell_of_row w1 _ _ _ _ _ e2]; rfl
    have d2 : w1.cell? ⟨w.heap.size + 1 + 1, 2, none⟩ = some (.bool false) := by rw [cell_of_row w1 _ _ _ _ _ e2]; rfl
    have g : ∀ o, w1.frozen? ⟨w.heap.size + 1 + 1, o, none⟩ = false := fun o => by simp [World.frozen?, e2]
    have HB := hB.trans (hb.mono (by omega))
    clear e0 e1 e2 hb hB hw
    go_wp2_with fail
    refine bodyPost_ret (v := .agg #[.int .u64 (IntKind.u64.wrap (wh n - wh m)), .int .u64 (IntKind.u64.wrap (wl n - wl m)), .bool b]) (by simp [results, Try.results120, go_sem, d0, d1, d2]) rfl ⟨qv_eq ?_ ?_ rfl, ((HB.setCell (by simp <;> omega) _).setCell (by simp <;> omega) _).setCell (by simp <;> omega) _⟩
    · obtain ⟨⟨_, _⟩, ⟨_, _⟩, _⟩ := HI.out
      clear HB HL HF a0 a1 a2 b0 b1 b2 d0 d1 d2 g
      simp only [IntKind.wrap_u64] at *
      unfold wh wl at *
      omega
    · simp only [IntKind.wrap_u64]
      unfold wl
      omega
set_option maxHeartbeats 1000000 in
theorem q_add_less (n m : Int) (b c : Bool) (hbc : (b == c) = false) (w : World) (hn : InQ n) (hm : InQ m) (hs : n < m) :
    Calls Try.prog 120 #[Qv b n, Qv c m] w fun e w' => e = .returned (Qv c (m - n)) ∧ Below w.heap.size w w' := by
  have l1 := qh_lo hn
  have l2 := qh_hi hn
  have l3 := qh_lo hm
  have l4 := qh_hi hm
  have HI := Lib.hid (And.intro hn (And.intro hm hs))
  have HL := Lib.hid (fun w => q_less n m b c w)
  have HF := Lib.hid (decide_eq_true hs)
  clear hn hm hs
  have h1 : wl m < wl n ∨ ¬ wl m < wl n := by omega
  rcases h1 with h1 | h1
  · go_enter Try.func120, Try.ntmps120
    go_wp2_with fail
    generalize hW : World.alloc _ _ = W
    obtain ⟨e0, e1, e2, hw, hB⟩ := three w _ _ n m _ _ _ hW
    clear hW
    refine (HL.out _).mono ?_
    rintro e w1 ⟨rfl, hb⟩
    rw [HF.out]
    have e0 := (hb.block _ (by omega)).trans e0
    have e1 := (hb.block _ (by omega)).trans e1
    have e2 := (hb.block _ (by omega)).trans e2
    have a0 : w1.cell? ⟨w.heap.size, 0, none⟩ = some (.int .u64 (wh n)) := by rw [cell_of_row w1 _ _ _ _ _ e0]; rfl
    have a1 : w1.cell? ⟨w.heap.size, 1, none⟩ = some (.int .u64 (wl n)) := by rw [cell_of_row w1 _ _ _ _ _ e0]; rfl
    have a2 : w1.cell? ⟨w.heap.size, 2, none⟩ = some (.bool b) := by rw [cell_of_row w1 _ _ _ _ _ e0]; rfl
    have b0 : w1.cell? ⟨w.heap.size + 1, 0, none⟩ = some (.int .u64 (wh m)) := by rw [cell_of_row w1 _ _ _ _ _ e1]; rfl
    have b1 : w1.cell? ⟨w.heap.size + 1, 1, none⟩ = some (.int .u64 (wl m)) := by rw [cell_of_row w1 _ _ _ _ _ e1]; rfl
    have b2 : w1.cell? ⟨w.heap.size + 1, 2, none⟩ = some (.bool c) := by rw [cell_of_row w1 _ _ _ _ _ e1]; rfl
    have d0 : w1.cell? ⟨w.heap.size + 1 + 1, 0, none⟩ = some (.int .u64 0) := by rw [cell_of_row w1 _ _ _ _ _ e2]; rfl
    have d1 : w1.cell? ⟨w.heap.size + 1 + 1, 1, none⟩ = some (.int .u64 0) := by rw [cell_of_row w1 _ _ _ _ _ e2]; rfl
    have d2 : w1.cell? ⟨w.heap.size + 1 + 1, 2, none⟩ = some (.bool false) := by rw [cell_of_row w1 _ _ _ _ _ e2]; rfl
    have g : ∀ o, w1.frozen? ⟨w.heap.size + 1 + 1, o, none⟩ = false := fun o => by simp [World.frozen?, e2]
    have ga : ∀ o, w1.frozen? ⟨w.heap.size, o, none⟩ = false := fun o => by simp [World.frozen?, e0]
    have gb : ∀ o, w1.frozen? ⟨w.heap.size + 1, o, none⟩ = false := fun o => by simp [World.frozen?, e1]
    have HB := hB.trans (hb.mono (by omega))
    clear e0 e1 e2 hb hB hw
    go_wp2_with fail
    refine bodyPost_ret (v := .agg #[.int .u64 (IntKind.u64.wrap (IntKind.u64.wrap (wh m - wh n) - 1)), .int .u64 (IntKind.u64.wrap (wl m - wl n)), .bool c]) (by simp [results, Try.results120, go_sem, d0, d1, d2]) rfl ⟨qv_eq ?_ ?_ rfl, (((((((((HB.setCell (by simp <;> omega) _).setCell (by simp <;> omega) _).setCell (by simp <;> omega) _).setCell (by simp <;> omega) _).setCell (by simp <;> omega) _).setCell (by simp <;> omega) _).setCell (by simp <;> omega) _).setCell (by simp <;> omega) _).setCell (by simp <;> omega) _)⟩
    · obtain ⟨⟨_, _⟩, ⟨_, _⟩, _⟩ := HI.out
      clear HB HL HF a0 a1 a2 b0 b1 b2 d0 d1 d2 g ga gb
      simp only [IntKind.wrap_u64] at *
      unfold wh wl at *
      omega
    · simp only [IntKind.wrap_u64]
      unfold wl
      omega
  · go_enter Try.func120, Try.ntmps120
    go_wp2_with fail
    generalize hW : World.alloc _ _ = W
    obtain ⟨e0, e1, e2, hw, hB⟩ := three w _ _ n m _ _ _ hW
    clear hW
    refine (HL.out _).mono ?_
    rintro e w1 ⟨rfl, hb⟩
    rw [HF.out]
    have e0 := (hb.block _ (by omega)).trans e0
    have e1 := (hb.block _ (by omega)).trans e1
    have e2 := (hb.block _ (by omega)).trans e2
    have a0 : w1.cell? ⟨w.heap.size, 0, none⟩ = some (.int .u64 (wh n)) := by rw [cell_of_row w1 _ _ _ _ _ e0]; rfl
    have a1 : w1.cell? ⟨w.heap.size, 1, none⟩ = some (.int .u64 (wl n)) := by rw [cell_of_row w1 _ _ _ _ _ e0]; rfl
    have a2 : w1.cell? ⟨w.heap.size, 2, none⟩ = some (.bool b) := by rw [cell_of_row w1 _ _ _ _ _ e0]; rfl
    have b0 : w1.cell? ⟨w.heap.size + 1, 0, none⟩ = some (.int .u64 (wh m)) := by rw [cell_of_row w1 _ _ _ _ _ e1]; rfl
    have b1 : w1.cell? ⟨w.heap.size + 1, 1, none⟩ = some (.int .u64 (wl m)) := by rw [cell_of_row w1 _ _ _ _ _ e1]; rfl
    have b2 : w1.cell? ⟨w.heap.size + 1, 2, none⟩ = some (.bool c) := by rw [cell_of_row w1 _ _ _ _ _ e1]; rfl
    have d0 : w1.cell? ⟨w.heap.size + 1 + 1, 0, none⟩ = some (.int .u64 0) := by rw [cell_of_row w1 _ _ _ _ _ e2]; rfl
    have d1 : w1.cell? ⟨w.heap.size + 1 + 1, 1, none⟩ = some (.int .u64 0) := by rw [cell_of_row w1 _ _ _ _ _ e2]; rfl
    have d2 : w1.cell? ⟨w.heap.size + 1 + 1, 2, none⟩ = some (.bool false) := by rw [cell_of_row w1 _ _ _ _ _ e2]; rfl
    have g : ∀ o, w1.frozen? ⟨w.heap.size + 1 + 1, o, none⟩ = false := fun o => by simp [World.frozen?, e2]
    have ga : ∀ o, w1.frozen? ⟨w.heap.size, o, none⟩ = false := fun o => by simp [World.frozen?, e0]
    have gb : ∀ o, w1.frozen? ⟨w.heap.size + 1, o, none⟩ = false := fun o => by simp [World.frozen?, e1]
    have HB := hB.trans (hb.mono (by omega))
    clear e0 e1 e2 hb hB hw
    go_wp2_with fail
    refine bodyPost_ret (v := .agg #[.int .u64 (IntKind.u64.wrap (wh m - wh n)), .int .u64 (IntKind.u64.wrap (wl m - wl n)), .bool c]) (by simp [results, Try.results120, go_sem, d0, d1, d2]) rfl ⟨qv_eq ?_ ?_ rfl, (((((((((HB.setCell (by simp <;> omega) _).setCell (by simp <;> omega) _).setCell (by simp <;> omega) _).setCell (by simp <;> omega) _).setCell (by simp <;> omega) _).setCell (by simp <;> omega) _).setCell (by simp <;> omega) _).setCell (by simp <;> omega) _).setCell (by simp <;> omega) _)⟩
    · obtain ⟨⟨_, _⟩, ⟨_, _⟩, _⟩ := HI.out
      clear HB HL HF a0 a1 a2 b0 b1 b2 d0 d1 d2 g ga gb
      simp only [IntKind.wrap_u64] at *
      unfold wh wl at *
      omega
    · simp only [IntKind.wrap_u64]
      unfold wl
      omega
end Go.Proofs.Ytdleeeahonfnkaa
