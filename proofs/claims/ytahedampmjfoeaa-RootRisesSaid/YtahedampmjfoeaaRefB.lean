/- The document's own numbers: a power of two, a bit, a small number, one of 128 bits. -/
import Derived.Test.YtahedampmjfoeaaRefA
namespace Go.Proofs.Ytahedampmjfoeaa
open Go.RowKit

set_option maxHeartbeats 1000000 in
theorem bit_any (n k : Nat) (hk : k < 256) (w : World) :
    Calls Try.prog 82 #[A8 n, .int .i64 k] w fun e w' => e = .returned (.int .u64 ((n / 2 ^ k % 2 : Nat) : Int)) ∧ Below w.heap.size w w' := by
  have h0 : (0 : Int) ≤ k := by omega
  have h1 : (k : Int) / 32 < 8 := by omega
  have h2 : (0 : Int) ≤ (k : Int) / 32 := by omega
  have h3 : (k : Int) % 32 < 32 := by omega
  have h4 : (0 : Int) ≤ (k : Int) % 32 := by omega
  go_enter Try.func82, Try.ntmps82
  go_upto_region 1 with (fail)
  generalize hW : World.alloc w _ = W
  have fa : Has8 W 29 w.heap.size (dg n) := by subst hW; exact Has8.made _ _ _
  have hB : Below w.heap.size w W := by subst hW; exact (Below.refl _ _).alloc (Nat.le_refl _) _
  clear hW
  have hq : k / 32 < 8 := by omega
  have a1 := fa.cell (k / 32) hq
  have l1 := dg_lo n (k / 32)
  have l2 := dg_hi n (k / 32)
  go_wp2
  go_ret
  exact ⟨ret_int (bit_dg n k), hB⟩

theorem small_val (z : Int) (h1 : -9223372036854775808 ≤ z) (h2 : z ≤ 9223372036854775807) : bits .or .u64 (dg z.natAbs 1 * 4294967296) (dg z.natAbs 0) = z.natAbs := by
  rw [or_join _ _ (dg_lo _ _) (dg_hi _ _) (dg_lo _ _) (dg_hi _ _), two_digits _ (by omega)]
set_option maxHeartbeats 1000000 in
theorem small_any (z : Int)  (w : World) (h1 : -9223372036854775808 ≤ z) (h2 : z ≤ 9223372036854775807) :
    Calls Try.prog 29 #[Bg z] w fun e w' => e = .returned (.int .i64 z) ∧ Below w.heap.size w w' := by
  have l1 := dg_lo z.natAbs 0
  have l2 := dg_hi z.natAbs 0
  have l3 := dg_lo z.natAbs 1
  have l4 := dg_hi z.natAbs 1
  have HV := Lib.hid (small_val z h1 h2)
  go_enter Try.func29, Try.ntmps29
  go_upto_region 1 with (fail)
  generalize hW : World.alloc w _ = W
  have fa : Has9 W 31 w.heap.size (decide (z < 0)) (dg z.natAbs) := by subst hW; exact Has9.made_at w _ (B := w.heap.size) rfl _ _
  have hB : Below w.heap.size w W := by subst hW; exact (Below.refl _ _).alloc (Nat.le_refl _) _
  clear hW
  obtain ⟨a0, a1, a2, _⟩ := fa.cells
  go_wp2
  · go_ret
    refine ⟨ret_int ?_, hB⟩
    rw [HV.out]
    unfold wrap64
    simp only [IntKind.wrap_u64]
    omega
  · go_ret
    refine ⟨ret_int ?_, hB⟩
    rw [HV.out]
    unfold wrap64
    omega

set_option maxHeartbeats 1000000 in
theorem pow_any (k : Nat) (hk : k ≤ 250) (w : World) :
    Calls Try.prog 26 #[.int .i64 k] w fun e w' => e = .returned (BgR false (2 ^ k)) ∧ Below w.heap.size w w' := by
  have h0 : (0 : Int) ≤ k := by omega
  have h1 : (k : Int) / 32 < 8 := by omega
  have h2 : (0 : Int) ≤ (k : Int) / 32 := by omega
  have h3 : (k : Int) % 32 < 32 := by omega
  have h4 : (0 : Int) ≤ (k : Int) % 32 := by omega
  have hq : k / 32 < 8 := by omega
  go_enter Try.func26, Try.ntmps26
  go_upto_region 2 with (fail)
  generalize hW : World.alloc (World.alloc w _) _ = W
  have fc : Has9 W 31 w.heap.size false (fun _ => 0) := by subst hW; exact (Has9.made_at w _ (B := w.heap.size) rfl false (fun _ => 0)).alloc _
  have fp : Has8 W 29 (w.heap.size + 1) (fun _ => 0) := by subst hW; exact Has8.made_at (World.alloc w _) _ (by simp) (fun _ => 0)
  have hB : Below w.heap.size w W := by subst hW; exact ((Below.refl _ _).alloc (Nat.le_refl _) _).alloc (by simp) _
  clear hW
  have a1 := fp.cell (k / 32) hq
  have g1 := fp.free (k / 32)
  go_upto_region 3 with (fail)
  generalize hW : World.setCell W _ _ = W2
  have fp2 : Has8 W2 29 (w.heap.size + 1) (dg (2 ^ k)) := by subst hW; exact (fp.set (k / 32) hq _).congr fun j _ => pow_row k j
  have fc2 : Has9 W2 31 w.heap.size false (fun _ => 0) := by
    subst hW
    unfold Has9
    rw [Below.heap_setCell _ _ _ _ (by simp)]; exact fc
  have hB2 : Below w.heap.size w W2 := by subst hW; exact hB.setCell (Nat.le_add_right _ _) _
  clear hW a1 g1 fp fc hB
  obtain ⟨a0, a1, a2, a3, a4, a5, a6, a7⟩ := fp2.cells
  obtain ⟨c0, c1, c2, c3, c4, c5, c6, c7, c8⟩ := fc2.cells
  have g := fc2.free
  go_wp2
  exact bodyPost_ret (v := BgR false (2 ^ k)) (by simp [results, Try.results26, go_sem, c0, c1, c2, c3, c4, c5, c6, c7, c8]) rfl ⟨rfl, Below.set9 (Nat.le_refl _) hB2 _ _ _ _ _ _ _ _ _⟩
end Go.Proofs.Ytahedampmjfoeaa
