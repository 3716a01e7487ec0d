/- The document's own numbers: one of 128 bits, comparing, whether it fits. -/
import Derived.Test.YtahedampmjfoeaaRefB
namespace Go.Proofs.Ytahedampmjfoeaa
open Go.RowKit

theorem sgn_up (z : Int) : (if decide (z < 0) = true then -((z.natAbs * 18446744073709551616 : Nat) : Int) else ((z.natAbs * 18446744073709551616 : Nat) : Int)) = z * 18446744073709551616 := by
  by_cases h : z < 0
  · rw [decide_eq_true h, if_pos rfl]; omega
  · rw [decide_eq_false h, if_neg (by simp)]; omega
set_option maxHeartbeats 2000000 in
theorem wide_any (hi lo : Int) (w : World) (h1 : -9223372036854775808 ≤ hi) (h2 : hi ≤ 9223372036854775807) (l1 : 0 ≤ lo) (l2 : lo < 18446744073709551616) :
    Calls Try.prog 64 #[.int .i64 hi, .int .u64 lo] w fun e w' => e = .returned (Bg (hi * 18446744073709551616 + lo)) ∧ Below w.heap.size w w' := by
  have hn : hi.natAbs < 18446744073709551616 := by omega
  have hln : lo.natAbs < 18446744073709551616 := by omega
  have hlc : (lo.natAbs : Int) = lo := by omega
  have HL := Lib.hid hlc
  clear hlc
  go_enter Try.func64, Try.ntmps64
  go_wp2_with fail
  generalize hW : World.alloc w _ = W
  have fc : Has9 W 31 w.heap.size false (fun _ => 0) := by subst hW; exact Has9.made_at w _ (B := w.heap.size) rfl false (fun _ => 0)
  have hs : w.heap.size < W.heap.size := by subst hW; simp
  have hB : Below w.heap.size w W := by subst hW; exact (Below.refl _ _).alloc (Nat.le_refl _) _
  clear hW
  have hI := Inv.start0 (there_of_row fc 9 (by decide)) hB
  have hs' := Nat.le_of_lt hs
  refine (of_any hi _ h1 h2).mono ?_
  rintro e w1 ⟨rfl, hb⟩
  have hI1 := Inv.call hs hs' hI hb
  clear hI fc hB hb
  go_wp2_with fail
  generalize hW2 : World.alloc (World.alloc w1 _) _ = W2
  have hI2 : Inv w W w.heap.size 9 W2 := by subst hW2; exact Inv.alloc hs hs' (Inv.alloc hs hs' hI1 _) _
  clear hW2 hI1
  refine (made_bg (decide (hi < 0)) (hi.natAbs * 18446744073709551616) (hi * 18446744073709551616) _ _ (by rw [B8_val]; omega) (A8_up64 hi.natAbs hn) (sgn_up hi)).mono ?_
  rintro e w3 ⟨rfl, hb⟩
  have hI3 := Inv.call hs hs' hI2 hb
  clear hI2 hb
  go_wp2_with fail
  refine (made_bg false lo.natAbs lo _ _ (Nat.lt_trans hln B8_big) (A8_of64 lo.natAbs hln _ _ ((and_mask _ l1 l2).trans (by rw [HL.out])) (by rw [HL.out])) (by rw [HL.out]; rfl)).mono ?_
  rintro e w4 ⟨rfl, hb⟩
  have hI4 := Inv.call hs hs' hI3 hb
  clear hI3 hb
  go_wp2_with fail
  refine (add_any (hi * 18446744073709551616) lo _ (by rw [B8_val]; omega) (by rw [B8_val]; omega) (by rw [B8_val]; omega)).mono ?_
  rintro e w5 ⟨rfl, hb⟩
  obtain ⟨j1, j2, j3, j4, j5⟩ := Inv.call hs hs' hI4 hb
  clear hI4 hb
  go_wp2
  exact bodyPost_ret (v := Bg (hi * 18446744073709551616 + lo)) (by simp [results, Try.results64, go_sem, j2]) rfl ⟨rfl, Below.set9 (Nat.le_refl _) j4 _ _ _ _ _ _ _ _ _⟩

theorem field_P (s : Bool) (n : Nat) (w : World) : (Instr.field 31 (BgR s n) 1).run Try.prog w = .ok (A8 n) w := by kernel_rfl
def fits (z : Int) (n : Nat) : Bool := if z < 0 then !decide (2 ^ n < z.natAbs) else decide (z.natAbs < 2 ^ n)
theorem pow_B8 (n : Nat) (h : n ≤ 250) : 2 ^ n < B8 := by
  unfold B8
  rw [show (4294967296 : Nat) = 2 ^ 32 by decide, ← Nat.pow_mul]
  exact Nat.pow_lt_pow_right (by omega) (by omega)
set_option maxHeartbeats 2000000 in
theorem fits_any (z : Int) (n : Nat) (w : World) (hn : n ≤ 250) (hz : z.natAbs < B8) :
    Calls Try.prog 19 #[Bg z, .int .i64 n] w fun e w' => e = .returned (.bool (fits z n)) ∧ Below w.heap.size w w' := by
  have hp := pow_B8 n hn
  have hfd := field_P
  by_cases h0 : z < 0
  · have hf : fits z n = !decide (2 ^ n < z.natAbs) := by unfold fits; rw [if_pos h0]
    have HF := Lib.hid hf
    clear hf
    go_enter Try.func19, Try.ntmps19
    go_upto_region 1 with (fail)
    generalize hW : World.alloc w _ = W
    have fa : Has9 W 31 w.heap.size true (dg z.natAbs) := by subst hW; exact Has9.made_at w _ (B := w.heap.size) rfl true (dg z.natAbs)
    have hB : Below w.heap.size w W := by subst hW; exact (Below.refl _ _).alloc (Nat.le_refl _) _
    have hs : w.heap.size < W.heap.size := by subst hW; simp
    clear hW
    obtain ⟨a0, a1, a2, a3, a4, a5, a6, a7, a8⟩ := fa.cells
    go_wp2_with fail
    go_region_held3 (fun w' => Ext w W w')
      ((show Ext w W _; first | (with_reducible exact Ext.start hB) | (with_reducible assumption) | (with_reducible exact Ext.call (Nat.le_of_lt hs) (by assumption) hb)))
      (first
        | (go_at_call 26; refine (pow_any n hn _).mono ?_; rintro e w' ⟨rfl, hb⟩)
        | (go_at_call 62; refine (less_any (2 ^ n) z.natAbs _ hp hz).mono ?_; rintro e w' ⟨rfl, hb⟩))
    rename_i hI
    have HB := hI.2.1
    clear hI
    go_wp2
    go_ret
    exact ⟨ret_bool HF.out.symm, HB⟩
  · have hf : fits z n = decide (z.natAbs < 2 ^ n) := by unfold fits; rw [if_neg h0]
    have HF := Lib.hid hf
    clear hf
    go_enter Try.func19, Try.ntmps19
    go_upto_region 1 with (fail)
    generalize hW : World.alloc w _ = W
    have fa : Has9 W 31 w.heap.size false (dg z.natAbs) := by subst hW; exact Has9.made_at w _ (B := w.heap.size) rfl false (dg z.natAbs)
    have hB : Below w.heap.size w W := by subst hW; exact (Below.refl _ _).alloc (Nat.le_refl _) _
    have hs : w.heap.size < W.heap.size := by subst hW; simp
    clear hW
    obtain ⟨a0, a1, a2, a3, a4, a5, a6, a7, a8⟩ := fa.cells
    go_wp2_with fail
    go_region_held3 (fun w' => Ext w W w')
      ((show Ext w W _; first | (with_reducible exact Ext.start hB) | (with_reducible assumption) | (with_reducible exact Ext.call (Nat.le_of_lt hs) (by assumption) hb)))
      (first
        | (go_at_call 26; refine (pow_any n hn _).mono ?_; rintro e w' ⟨rfl, hb⟩)
        | (go_at_call 62; refine (less_any z.natAbs (2 ^ n) _ hz hp).mono ?_; rintro e w' ⟨rfl, hb⟩))
    rename_i hI
    have HB := hI.2.1
    clear hI
    go_wp2
    go_ret
    exact ⟨ret_bool HF.out.symm, HB⟩
end Go.Proofs.Ytahedampmjfoeaa
