/- The sum of two numbers with signs. -/
import Derived.Test.YtahedampmjfoeaaMade
namespace Go.Proofs.Ytahedampmjfoeaa
open Go.RowKit

theorem Has9.below {w w' : World} {t : TypeId} {B N : Nat} {s : Bool} {f : Nat → Int} (h : Has9 w t B s f) (hb : Below N w w') (hB : B < N) : Has9 w' t B s f := (hb.block B hB).trans h
set_option maxHeartbeats 2000000 in
theorem add_same (s t : Bool) (m n : Nat) (hst : s = t) (h : m + n < B8) (w : World) :
    Calls Try.prog 17 #[BgR s m, BgR t n] w fun e w' => e = .returned (BgR (ng s (m + n)) (m + n)) ∧ Below w.heap.size w w' := by
  have hss : (s == t) = true := by simp [hst]
  clear hst
  go_enter Try.func17, Try.ntmps17
  go_wp2_with fail
  generalize hW : World.alloc (World.alloc (World.alloc w _) _) _ = W
  have fa : Has9 W 31 w.heap.size s (dg m) := by subst hW; exact ((Has9.made_at w _ (B := w.heap.size) rfl s (dg m)).alloc _).alloc _
  have fb : Has9 W 31 (w.heap.size + 1) t (dg n) := by subst hW; exact (Has9.made_at (World.alloc w _) _ (B := w.heap.size + 1) (by simp) t (dg n)).alloc _
  have fc : Has9 W 31 (w.heap.size + 2) false (fun _ => 0) := by subst hW; exact Has9.made_at (World.alloc (World.alloc w _) _) _ (B := w.heap.size + 2) (by simp) false (fun _ => 0)
  have hs : w.heap.size + 2 < W.heap.size := by subst hW; simp
  have hB : Below w.heap.size w W := by subst hW; exact (((Below.refl _ _).alloc (by omega) _).alloc (by simp) _).alloc (by simp; omega) _
  clear hW
  have ht := there_of_row fc 9 (by decide)
  have h01 : w.heap.size ≠ w.heap.size + 2 := by omega
  have h12 : w.heap.size + 1 ≠ w.heap.size + 2 := by omega
  have hs0 : w.heap.size < W.heap.size := by omega
  have hs1 : w.heap.size + 1 < W.heap.size := by omega
  obtain ⟨a0, a1, a2, a3, a4, a5, a6, a7, a8⟩ := fa.cells
  obtain ⟨b0, b1, b2, b3, b4, b5, b6, b7, b8⟩ := fb.cells
  go_region_held3 (fun w' => Inv w W (w.heap.size + 2) 9 w')
    ((show Inv w W (w.heap.size + 2) 9 _; first | (with_reducible exact Inv.start ht hB) | (with_reducible refine Inv.set (by omega) _ _ ?_; (repeat refine Inv.set (by omega) _ _ ?_); assumption) | (with_reducible exact Inv.call hs (Nat.le_of_lt hs0) (by assumption) hb)))
    (first
      | (go_at_call 61; refine (plus_any m n _).mono ?_; rintro e w' ⟨rfl, hb⟩; obtain ⟨j1, j2, j3, j4, j5⟩ := Inv.call hs (Nat.le_of_lt hs0) (by assumption) hb)
      | (go_at_call 59; refine (made_of s (m + n) _ _ h rfl).mono ?_; rintro e w' ⟨rfl, hb⟩; obtain ⟨j1, j2, j3, j4, j5⟩ := Inv.call hs (Nat.le_of_lt hs0) (by assumption) hb))
  rename_i hI
  have HB := hI.2.2.2.1
  clear hI
  go_wp2_with fail
  exact bodyPost_ret (v := BgR (ng s (m + n)) (m + n)) (by simp [results, Try.results17, go_sem, j2]) rfl ⟨rfl, HB⟩
set_option maxHeartbeats 2000000 in
theorem add_lt (s t : Bool) (m n : Nat) (hst : s ≠ t) (h : m < n) (hm : m < B8) (hn : n < B8) (w : World) :
    Calls Try.prog 17 #[BgR s m, BgR t n] w fun e w' => e = .returned (BgR (ng t (n - m)) (n - m)) ∧ Below w.heap.size w w' := by
  have hss : (s == t) = false := by simp [hst]
  have hd : decide (m < n) = true := by simp [h]
  have hle : m ≤ n := by omega
  have hnm : n - m < B8 := by omega
  clear hst h
  go_enter Try.func17, Try.ntmps17
  go_wp2_with fail
  generalize hW : World.alloc (World.alloc (World.alloc w _) _) _ = W
  have fa : Has9 W 31 w.heap.size s (dg m) := by subst hW; exact ((Has9.made_at w _ (B := w.heap.size) rfl s (dg m)).alloc _).alloc _
  have fb : Has9 W 31 (w.heap.size + 1) t (dg n) := by subst hW; exact (Has9.made_at (World.alloc w _) _ (B := w.heap.size + 1) (by simp) t (dg n)).alloc _
  have fc : Has9 W 31 (w.heap.size + 2) false (fun _ => 0) := by subst hW; exact Has9.made_at (World.alloc (World.alloc w _) _) _ (B := w.heap.size + 2) (by simp) false (fun _ => 0)
  have hs : w.heap.size + 2 < W.heap.size := by subst hW; simp
  have hB : Below w.heap.size w W := by subst hW; exact (((Below.refl _ _).alloc (by omega) _).alloc (by simp) _).alloc (by simp; omega) _
  clear hW
  have ht := there_of_row fc 9 (by decide)
  have h01 : w.heap.size ≠ w.heap.size + 2 := by omega
  have h12 : w.heap.size + 1 ≠ w.heap.size + 2 := by omega
  have hs0 : w.heap.size < W.heap.size := by omega
  have hs1 : w.heap.size + 1 < W.heap.size := by omega
  obtain ⟨a0, a1, a2, a3, a4, a5, a6, a7, a8⟩ := fa.cells
  obtain ⟨b0, b1, b2, b3, b4, b5, b6, b7, b8⟩ := fb.cells
  refine (less_any m n _ hm hn).mono ?_
  rintro e w1 ⟨rfl, hbl⟩
  have fa1 := fa.below hbl hs0
  have fb1 := fb.below hbl hs1
  have fc1 := fc.below hbl hs
  have hB1 : Below w.heap.size w w1 := hB.trans (hbl.mono (Nat.le_of_lt hs0))
  have hs' : w.heap.size + 2 < w1.heap.size := Nat.lt_of_lt_of_le hs hbl.size
  clear a0 a1 a2 a3 a4 a5 a6 a7 a8 b0 b1 b2 b3 b4 b5 b6 b7 b8 ht fa fb fc hbl hB hs hs0 hs1
  have hs := hs'
  have hB := hB1
  clear hs' hB1
  have ht := there_of_row fc1 9 (by decide)
  have hs0 : w.heap.size < w1.heap.size := by omega
  have hs1 : w.heap.size + 1 < w1.heap.size := by omega
  obtain ⟨a0, a1, a2, a3, a4, a5, a6, a7, a8⟩ := fa1.cells
  obtain ⟨b0, b1, b2, b3, b4, b5, b6, b7, b8⟩ := fb1.cells
  go_wp2_with fail
  go_region_held3 (fun w' => Inv w w1 (w.heap.size + 2) 9 w')
    ((show Inv w w1 (w.heap.size + 2) 9 _; first | (with_reducible exact Inv.start ht hB) | (with_reducible refine Inv.set (by omega) _ _ ?_; (repeat refine Inv.set (by omega) _ _ ?_); assumption) | (with_reducible exact Inv.call hs (Nat.le_of_lt hs0) (by assumption) hb)))
    (first
      | (go_at_call 63; refine (minus_any n m _ hle).mono ?_; rintro e w' ⟨rfl, hb⟩; obtain ⟨j1, j2, j3, j4, j5⟩ := Inv.call hs (Nat.le_of_lt hs0) (by assumption) hb)
      | (go_at_call 59; refine (made_of t (n - m) _ _ hnm rfl).mono ?_; rintro e w' ⟨rfl, hb⟩; obtain ⟨j1, j2, j3, j4, j5⟩ := Inv.call hs (Nat.le_of_lt hs0) (by assumption) hb))
  rename_i hI
  have HB := hI.2.2.2.1
  clear hI
  go_wp2_with fail
  exact bodyPost_ret (v := BgR (ng t (n - m)) (n - m)) (by simp [results, Try.results17, go_sem, j2]) rfl ⟨rfl, HB⟩
set_option maxHeartbeats 2000000 in
theorem add_ge (s t : Bool) (m n : Nat) (hst : s ≠ t) (h : n ≤ m) (hm : m < B8) (hn : n < B8) (w : World) :
    Calls Try.prog 17 #[BgR s m, BgR t n] w fun e w' => e = .returned (BgR (ng s (m - n)) (m - n)) ∧ Below w.heap.size w w' := by
  have hss : (s == t) = false := by simp [hst]
  have hd : decide (m < n) = false := by simp; omega
  have hnm : m - n < B8 := by omega
  clear hst
  go_enter Try.func17, Try.ntmps17
  go_wp2_with fail
  generalize hW : World.alloc (World.alloc (World.alloc w _) _) _ = W
  have fa : Has9 W 31 w.heap.size s (dg m) := by subst hW; exact ((Has9.made_at w _ (B := w.heap.size) rfl s (dg m)).alloc _).alloc _
  have fb : Has9 W 31 (w.heap.size + 1) t (dg n) := by subst hW; exact (Has9.made_at (World.alloc w _) _ (B := w.heap.size + 1) (by simp) t (dg n)).alloc _
  have fc : Has9 W 31 (w.heap.size + 2) false (fun _ => 0) := by subst hW; exact Has9.made_at (World.alloc (World.alloc w _) _) _ (B := w.heap.size + 2) (by simp) false (fun _ => 0)
  have hs : w.heap.size + 2 < W.heap.size := by subst hW; simp
  have hB : Below w.heap.size w W := by subst hW; exact (((Below.refl _ _).alloc (by omega) _).alloc (by simp) _).alloc (by simp; omega) _
  clear hW
  have ht := there_of_row fc 9 (by decide)
  have h01 : w.heap.size ≠ w.heap.size + 2 := by omega
  have h12 : w.heap.size + 1 ≠ w.heap.size + 2 := by omega
  have hs0 : w.heap.size < W.heap.size := by omega
  have hs1 : w.heap.size + 1 < W.heap.size := by omega
  obtain ⟨a0, a1, a2, a3, a4, a5, a6, a7, a8⟩ := fa.cells
  obtain ⟨b0, b1, b2, b3, b4, b5, b6, b7, b8⟩ := fb.cells
  refine (less_any m n _ hm hn).mono ?_
  rintro e w1 ⟨rfl, hbl⟩
  have fa1 := fa.below hbl hs0
  have fb1 := fb.below hbl hs1
  have fc1 := fc.below hbl hs
  have hB1 : Below w.heap.size w w1 := hB.trans (hbl.mono (Nat.le_of_lt hs0))
  have hs' : w.heap.size + 2 < w1.heap.size := Nat.lt_of_lt_of_le hs hbl.size
  clear a0 a1 a2 a3 a4 a5 a6 a7 a8 b0 b1 b2 b3 b4 b5 b6 b7 b8 ht fa fb fc hbl hB hs hs0 hs1
  have hs := hs'
  have hB := hB1
  clear hs' hB1
  have ht := there_of_row fc1 9 (by decide)
  have hs0 : w.heap.size < w1.heap.size := by omega
  have hs1 : w.heap.size + 1 < w1.heap.size := by omega
  obtain ⟨a0, a1, a2, a3, a4, a5, a6, a7, a8⟩ := fa1.cells
  obtain ⟨b0, b1, b2, b3, b4, b5, b6, b7, b8⟩ := fb1.cells
  go_wp2_with fail
  go_region_held3 (fun w' => Inv w w1 (w.heap.size + 2) 9 w')
    ((show Inv w w1 (w.heap.size + 2) 9 _; first | (with_reducible exact Inv.start ht hB) | (with_reducible refine Inv.set (by omega) _ _ ?_; (repeat refine Inv.set (by omega) _ _ ?_); assumption) | (with_reducible exact Inv.call hs (Nat.le_of_lt hs0) (by assumption) hb)))
    (first
      | (go_at_call 63; refine (minus_any m n _ h).mono ?_; rintro e w' ⟨rfl, hb⟩; obtain ⟨j1, j2, j3, j4, j5⟩ := Inv.call hs (Nat.le_of_lt hs0) (by assumption) hb)
      | (go_at_call 59; refine (made_of s (m - n) _ _ hnm rfl).mono ?_; rintro e w' ⟨rfl, hb⟩; obtain ⟨j1, j2, j3, j4, j5⟩ := Inv.call hs (Nat.le_of_lt hs0) (by assumption) hb))
  rename_i hI
  have HB := hI.2.2.2.1
  clear hI
  go_wp2_with fail
  exact bodyPost_ret (v := BgR (ng s (m - n)) (m - n)) (by simp [results, Try.results17, go_sem, j2]) rfl ⟨rfl, HB⟩

/-- A whole number as the document's own. -/
abbrev Bg (z : Int) : Value := BgR (decide (z < 0)) z.natAbs
theorem bg_of (b : Bool) (n : Nat) (z : Int) (h : (if b then -(n : Int) else (n : Int)) = z) : BgR (ng b n) n = Bg z := by
  subst h
  cases b
  · simp [ng]
  · unfold Bg ng
    by_cases h0 : n = 0
    · subst h0; rfl
    · have : decide (-(n : Int) < 0) = true := by simp; omega
      simp only [Bool.true_and, if_true, this, Int.natAbs_neg, Int.natAbs_natCast, h0, decide_false, Bool.not_false]
theorem add_any (x y : Int) (w : World) (hx : x.natAbs < B8) (hy : y.natAbs < B8) (h : x.natAbs + y.natAbs < B8) :
    Calls Try.prog 17 #[Bg x, Bg y] w fun e w' => e = .returned (Bg (x + y)) ∧ Below w.heap.size w w' := by
  by_cases hs : decide (x < 0) = decide (y < 0)
  · refine (add_same _ _ _ _ hs h w).mono fun e w' ⟨he, hb⟩ => ⟨he.trans (ret_val (bg_of _ _ _ ?_)), hb⟩
    by_cases h1 : x < 0 <;> by_cases h2 : y < 0 <;> simp [h1, h2] at hs ⊢ <;> omega
  · by_cases hl : x.natAbs < y.natAbs
    · refine (add_lt _ _ _ _ hs hl hx hy w).mono fun e w' ⟨he, hb⟩ => ⟨he.trans (ret_val (bg_of _ _ _ ?_)), hb⟩
      by_cases h1 : x < 0 <;> by_cases h2 : y < 0 <;> simp [h1, h2] at hs ⊢ <;> omega
    · refine (add_ge _ _ _ _ hs (by omega) hx hy w).mono fun e w' ⟨he, hb⟩ => ⟨he.trans (ret_val (bg_of _ _ _ ?_)), hb⟩
      by_cases h1 : x < 0 <;> by_cases h2 : y < 0 <;> simp [h1, h2] at hs ⊢ <;> omega
end Go.Proofs.Ytahedampmjfoeaa
