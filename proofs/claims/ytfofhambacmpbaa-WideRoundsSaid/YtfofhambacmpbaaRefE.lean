/- The document's own numbers: their product. -/
import Derived.Test.YtfofhambacmpbaaRefD
import Derived.Test.YtfofhambacmpbaaMulN
namespace Go.Proofs.Ytfofhambacmpbaa
open Go.RowKit

theorem Has9.drewN {w : World} {t : TypeId} {B n : Nat} {s : Bool} {f : Nat → Int} (h : Has9 w t B s f) : Has9 (w.drewN n) t B s f := by
  induction n generalizing w with
  | zero => exact h
  | succ n ih => exact ih (w := w.drew) h
theorem Has9.other {w : World} {t : TypeId} {B : Nat} {s : Bool} {f : Nat → Int} (h : Has9 w t B s f) {a : Addr} (ha : B ≠ a.block) (v : Value) : Has9 (w.setCell a v) t B s f := by
  unfold Has9
  rw [Below.heap_setCell _ _ _ _ ha]; exact h
theorem Has9.digit {w : World} {t : TypeId} {B : Nat} {s : Bool} {f : Nat → Int} (h : Has9 w t B s f) (j : Nat) (hj : j < 8) : w.cell? ⟨B, 1 + j, none⟩ = some (.int .u64 (f j)) := by
  obtain ⟨b0, b1, b2, b3, b4, b5, b6, b7, b8⟩ := h.cells
  match j, hj with
  | 0, _ => exact b1
  | 1, _ => exact b2
  | 2, _ => exact b3
  | 3, _ => exact b4
  | 4, _ => exact b5
  | 5, _ => exact b6
  | 6, _ => exact b7
  | 7, _ => exact b8
theorem dg_mul_bd (n m i k : Nat) : 0 ≤ dg n i * dg m k ∧ dg n i * dg m k ≤ 18446744065119617025 := by
  have a1 := dg_lo n i; have a2 := dg_hi n i; have b1 := dg_lo m k; have b2 := dg_hi m k
  refine ⟨Int.mul_nonneg a1 b1, ?_⟩
  have : dg n i * dg m k ≤ 4294967295 * 4294967295 := Int.mul_le_mul a2 b2 b1 (by omega)
  omega
theorem sgn_mul (x y : Int) : (if (decide (x < 0) != decide (y < 0)) = true then -((x.natAbs * y.natAbs : Nat) : Int) else ((x.natAbs * y.natAbs : Nat) : Int)) = x * y := by
  have h := Int.natAbs_mul x y
  rw [← h]
  by_cases hx : x < 0 <;> by_cases hy : y < 0
  · have := Int.mul_pos_of_neg_of_neg hx hy
    simp [hx, hy]; omega
  · have := Int.mul_nonpos_of_nonpos_of_nonneg (Int.le_of_lt hx) (Int.not_lt.1 hy)
    simp [hx, hy]; omega
  · have := Int.mul_nonpos_of_nonneg_of_nonpos (Int.not_lt.1 hx) (Int.le_of_lt hy)
    simp [hx, hy]; omega
  · have := Int.mul_nonneg (Int.not_lt.1 hx) (Int.not_lt.1 hy)
    simp [hx, hy]; omega
set_option maxHeartbeats 4000000 in
theorem mul_any (x y : Int) (w : World) (hx : x.natAbs < B8) (h : x.natAbs * y.natAbs < B8) :
    Calls Try.prog 27 #[Bg x, Bg y] w fun e w' => e = .returned (Bg (x * y)) ∧ Below w.heap.size w w' := by
  have HN := Lib.hid (mP_all x.natAbs y.natAbs hx)
  go_enter Try.func27, Try.ntmps27
  go_wp2_with fail
  generalize hW : World.alloc (World.alloc (World.alloc (World.alloc w _) _) _) _ = W
  have fa : Has9 W 38 w.heap.size (decide (x < 0)) (dg x.natAbs) := by subst hW; exact (((Has9.made_at w _ (B := w.heap.size) rfl _ _).alloc _).alloc _).alloc _
  have fb : Has9 W 38 (w.heap.size + 1) (decide (y < 0)) (dg y.natAbs) := by subst hW; exact ((Has9.made_at (World.alloc w _) _ (B := w.heap.size + 1) (by simp) (decide (y < 0)) (dg y.natAbs)).alloc _).alloc _
  have fc : Has9 W 38 (w.heap.size + 2) false (fun _ => 0) := by subst hW; exact (Has9.made_at _ _ (by simp) false (fun _ => 0)).alloc _
  have fp : Has8 W 36 (w.heap.size + 3) (fun _ => 0) := by subst hW; exact Has8.made_at _ _ (by simp) (fun _ => 0)
  have hB : Below w.heap.size w W := by subst hW; exact ((((Below.refl _ _).alloc (Nat.le_refl _) _).alloc (by simp) _).alloc (by simp; omega) _).alloc (by simp; omega) _
  clear hW
  go_loopw [6] (fun s6 wr => ∃ i : Nat, i ≤ 8 ∧ s6 = .int .i64 i ∧ Has9 wr 38 w.heap.size (decide (x < 0)) (dg x.natAbs) ∧ Has9 wr 38 (w.heap.size + 1) (decide (y < 0)) (dg y.natAbs) ∧ Has9 wr 38 (w.heap.size + 2) false (fun _ => 0) ∧ Has8 wr 36 (w.heap.size + 3) (dg (mP x.natAbs y.natAbs i)) ∧ Below w.heap.size w wr) (fun s6 _ => 8 - (intOf s6).toNat)
  case atStart => exact ⟨0, by omega, rfl, fa, fb, fc, fp.congr (fun j _ => (mP_zero _ _ j).symm), hB⟩
  case round =>
    clear fa fb fc fp hB
    obtain ⟨i, hi, rfl, fa, fb, fc, fp, hB⟩ := hrel
    by_cases hlt : i < 8
    · have i0 : (0 : Int) ≤ i := by omega
      have i8 : (i : Int) < 8 := by omega
      go_wp2_with fail
      go_loopw [7, 8] (fun s7 s8 wr2 => ∃ k : Nat, k ≤ 8 - i ∧ s8 = .int .i64 k ∧ s7 = .int .u64 (mC x.natAbs y.natAbs i k) ∧ Has9 wr2 38 w.heap.size (decide (x < 0)) (dg x.natAbs) ∧ Has9 wr2 38 (w.heap.size + 1) (decide (y < 0)) (dg y.natAbs) ∧ Has9 wr2 38 (w.heap.size + 2) false (fun _ => 0) ∧ Has8 wr2 36 (w.heap.size + 3) (mRow x.natAbs y.natAbs i k) ∧ Below w.heap.size w wr2) (fun _ s8 _ => 8 - (intOf s8).toNat)
      case atStart => exact ⟨0, by omega, rfl, by rw [mC_zero], fa, fb, fc, fp.congr (fun j _ => mRow_start _ _ _ j), hB⟩
      case round =>
        clear fa fb fc fp hB
        obtain ⟨k, hk, rfl, rfl, fa, fb, fc, fp, hB⟩ := hrel
        by_cases hkt : i + k < 8
        · have k0 : (0 : Int) ≤ k := by omega
          have k8 : (k : Int) < 8 := by omega
          have ik8 : (i : Int) + k < 8 := by omega
          have ik0 : (0 : Int) ≤ (i : Int) + k := by omega
          have ikn : ((i : Int) + k).toNat = i + k := by omega
          have p1 := fp.cell (i + k) hkt
          have g1 := fp.free (i + k)
          rw [mRow_at] at p1
          have d1 := fa.digit i hlt
          have d2 := fb.digit k (by omega)
          have l1 := mC_lo x.natAbs y.natAbs i k
          have l2 := mC_hi x.natAbs y.natAbs i k
          have l3 := dg_lo (mP x.natAbs y.natAbs i) (i + k)
          have l4 := dg_hi (mP x.natAbs y.natAbs i) (i + k)
          have l5 := (dg_mul_bd x.natAbs y.natAbs i k).1
          have l6 := (dg_mul_bd x.natAbs y.natAbs i k).2
          go_wp2_with fail
          go_quiet (fail)
          go_wp2_with fail
          go_roundw
          case rel =>
            refine ⟨k + 1, by omega, by go_num, by rw [(mul_step _ _ _ _).2], ?_, ?_, ?_, ?_, ?_⟩
            · exact fa.drewN.other (by simp; omega) _
            · exact fb.drewN.other (by simp) _
            · exact fc.drewN.other (by simp) _
            · rw [and_mask _ (by omega) (by omega), (mul_step _ _ _ _).1]
              exact (fp.drewN.set (i + k) hkt _).congr fun j _ => mRow_step _ _ _ _ j
            · exact (below_drewN hB _).setCell (by simp; omega) _
          case measure => simp [intOf]; omega
        · obtain rfl : k = 8 - i := by omega
          have ik8 : ¬ (i : Int) + ((8 - i : Nat) : Int) < 8 := by omega
          have fp2 := fp.congr (fun j hj => mRow_end x.natAbs y.natAbs i j hlt hj)
          clear fp
          go_wp2_with fail
          go_roundw
          case rel => exact ⟨i + 1, by omega, by go_num, fa, fb, fc, fp2, hB⟩
          case measure => simp [intOf]; omega
    · obtain rfl : i = 8 := by omega
      rw [HN.out] at fp
      obtain ⟨a0, a1, a2, a3, a4, a5, a6, a7, a8⟩ := fa.cells
      obtain ⟨b0, b1, b2, b3, b4, b5, b6, b7, b8⟩ := fb.cells
      obtain ⟨p0, p1, p2, p3, p4, p5, p6, p7⟩ := fp.cells
      have hs2 : w.heap.size + 2 < wr.heap.size := fc.lt
      have hs0 : w.heap.size ≤ wr.heap.size := by omega
      have hI := Inv.start0 (there_of_row fc 9 (by decide)) hB
      clear fa fb fc fp hB
      go_wp2_with fail
      refine (made_bg (decide (x < 0) != decide (y < 0)) (x.natAbs * y.natAbs) (x * y) _ _ h rfl (sgn_mul x y)).mono ?_
      rintro e w1 ⟨rfl, hb⟩
      obtain ⟨j1, j2, j3, j4, j5⟩ := Inv.call hs2 hs0 hI hb
      clear hI
      go_wp2
      exact bodyPost_ret (v := Bg (x * y)) (by simp [results, Try.results27, go_sem, j2]) rfl ⟨rfl, Below.set9 (by omega) j4 _ _ _ _ _ _ _ _ _⟩
end Go.Proofs.Ytfofhambacmpbaa
