/- Package wide: roots. -/
import Derived.Test.YtahedampmjfoeaaWideG
namespace Go.Proofs.Ytahedampmjfoeaa
open Go.RowKit

theorem length_hi (h l : Int) (w : World) (h0 : 0 < h) (h1 : h ≤ 9223372036854775807) :
    Calls Try.prog 84 #[.agg #[.int .i64 h, .int .u64 l]] w fun e w' => e = .returned (.int .i64 (64 + (Lib.bitLen h.toNat : Int))) ∧ Below w.heap.size w w' := by
  have t1 : (h != 0) = true := by rw [bne_iff_ne]; omega
  have hl := len_le64 h (by omega) (by omega)
  go_enter Try.func84, Try.ntmps84
  go_wp2_with fail
  refine (len64_int h _ (by omega) (by omega)).mono ?_
  rintro e w' ⟨rfl, rfl⟩
  go_wp2_with fail
  go_ret
  exact ⟨rfl, (Below.refl _ _).alloc (Nat.le_refl _) _⟩
theorem length_lo (h l : Int) (w : World) (h0 : h = 0) (l0 : 0 ≤ l) (l1 : l < 18446744073709551616) :
    Calls Try.prog 84 #[.agg #[.int .i64 h, .int .u64 l]] w fun e w' => e = .returned (.int .i64 (Lib.bitLen l.toNat : Int)) ∧ Below w.heap.size w w' := by
  have t1 : (h != 0) = false := by rw [h0]; rfl
  clear h0
  go_enter Try.func84, Try.ntmps84
  go_wp2_with fail
  refine (len64_int l _ l0 (by omega)).mono ?_
  rintro e w' ⟨rfl, rfl⟩
  go_wp2_with fail
  go_ret
  exact ⟨rfl, (Below.refl _ _).alloc (Nat.le_refl _) _⟩
structure Lt126 (n : Nat) : Prop where
  out : n < 85070591730234615865843651857942052864
/-- How long the number is: what the first guess is made of. -/
structure LongAs (n L : Nat) : Prop where
  hi : n < 2 ^ L
  le : L ≤ 126
theorem bits_up (x : Nat) (h : x < 18446744073709551616) : x < 2 ^ Lib.bitLen x := by
  have h1 := Lib.bitLen_le x 64 (by omega) h
  by_cases h2 : Lib.bitLen x ≤ 63
  · exact (bitLen_iff x _ h2 h).1 (Nat.le_refl _)
  · rw [show Lib.bitLen x = 64 by omega]; exact h
theorem length_any (h l : Int) (n : Nat) (w : World) (hn : Lt126 n) (hh : h = (n / 18446744073709551616 : Nat)) (hl : l = (n % 18446744073709551616 : Nat)) :
    Calls Try.prog 84 #[.agg #[.int .i64 h, .int .u64 l]] w fun e w' => (∃ L : Nat, e = .returned (.int .i64 L) ∧ LongAs n L) ∧ Below w.heap.size w w' := by
  have hn' := hn.out
  by_cases h0 : h = 0
  · refine (length_lo h l w h0 (by omega) (by omega)).mono fun e w' ⟨he, hb⟩ => ⟨⟨_, he, ?_, ?_⟩, hb⟩
    · rw [hl, Int.toNat_natCast]
      have := bits_up (n % 18446744073709551616) (Nat.mod_lt _ (by omega))
      rw [show n % 18446744073709551616 = n by omega] at *
      exact this
    · have := Lib.bitLen_le l.toNat 64 (by omega) (by omega)
      omega
  · refine (length_hi h l w (by omega) (by omega)).mono fun e w' ⟨he, hb⟩ => ⟨⟨64 + Lib.bitLen h.toNat, by rw [he]; simp, ?_, ?_⟩, hb⟩
    · rw [hh, Int.toNat_natCast, Nat.pow_add]
      have := bits_up (n / 18446744073709551616) (by omega)
      have h2 : (n / 18446744073709551616 + 1) * 2 ^ 64 ≤ 2 ^ Lib.bitLen (n / 18446744073709551616) * 2 ^ 64 := Nat.mul_le_mul_right _ this
      rw [Nat.mul_comm (2 ^ 64)]
      omega
    · have := Lib.bitLen_le h.toNat 62 (by omega) (by omega)
      omega
theorem first_guess (n L : Nat) (h : LongAs n L) : isq n ≤ 2 ^ ((L + 1) / 2) ∧ 2 ^ ((L + 1) / 2) ≤ 2 ^ 63 := by
  refine ⟨isq_le ?_, pow_lt _ 63 (by have := h.le; omega)⟩
  have h1 := pow_lt L ((L + 1) / 2 + (L + 1) / 2) (by omega)
  rw [Nat.pow_add] at h1
  have h2 := h.hi
  have h3 := Nat.mul_le_mul (show 2 ^ ((L + 1) / 2) ≤ 2 ^ ((L + 1) / 2) + 1 by omega) (show 2 ^ ((L + 1) / 2) ≤ 2 ^ ((L + 1) / 2) + 1 by omega)
  omega
set_option maxHeartbeats 2000000 in
theorem floor_zero (h l : Int) (w : World) (hh : h = 0) (hl : l = 0) :
    Calls Try.prog 79 #[.agg #[.int .i64 h, .int .u64 l]] w fun e w' => e = .returned (.int .u64 0) ∧ Below w.heap.size w w' := by
  have t1 : (h == 0) = true := by rw [hh]; rfl
  have t2 : (l == 0) = true := by rw [hl]; rfl
  clear hh hl
  go_enter Try.func79, Try.ntmps79
  go_wp2_with fail
  go_ret
  exact ⟨rfl, (Below.refl _ _).alloc (Nat.le_refl _) _⟩
set_option maxHeartbeats 2000000 in
theorem floor_pos (h l : Int) (n : Nat) (w : World) (hn : Lt126 n) (h0 : 0 < n) (hh : h = (n / 18446744073709551616 : Nat)) (hl : l = (n % 18446744073709551616 : Nat)) :
    Calls Try.prog 79 #[.agg #[.int .i64 h, .int .u64 l]] w fun e w' => e = .returned (.int .u64 (isq n : Nat)) ∧ Below w.heap.size w w' := by
  have HH := Lib.hid hh
  have HL := Lib.hid hl
  have HM := Lib.hid (show n / 18446744073709551616 * 18446744073709551616 + n % 18446744073709551616 = n from Nat.div_add_mod' _ _)
  have hn' := hn.out
  have b1 : 0 ≤ h := by omega
  have b2 : h ≤ 4611686018427387904 := by omega
  have tt : (h == 0) = false ∨ ((h == 0) = true ∧ (l == 0) = false) := by
    by_cases hz : h = 0
    · right; rw [beq_iff_eq, beq_eq_false_iff_ne]; omega
    · left; rw [beq_eq_false_iff_ne]; exact hz
  have H0 := Lib.hid h0
  have b3 : 0 ≤ l := by omega
  have b4 : l < 18446744073709551616 := by omega
  clear hh hl hn' h0
  rcases tt with t1 | ⟨t1, t2⟩
  all_goals
    go_enter Try.func79, Try.ntmps79
    go_wp2_with fail
    generalize hW : World.alloc w _ = W
    have e0 : W.heap[w.heap.size]? = some (.cells #[.int .i64 h, .int .u64 l] 27 (0, 0)) := by subst hW; exact heap_alloc_new w _
    have hB : Below w.heap.size w W := by subst hW; exact (Below.refl _ _).alloc (Nat.le_refl _) _
    have hw : w.heap.size < W.heap.size := by subst hW; simp
    clear hW
    refine (length_any h l n _ hn HH.out HL.out).mono ?_
    rintro e w1 ⟨⟨L, rfl, hL⟩, hb⟩
    have e1 := (hb.block _ hw).trans e0
    have hB1 := hB.trans (hb.mono (Nat.le_of_lt hw))
    have hw1 := Nat.lt_of_lt_of_le hw hb.size
    clear e0 hb hB hw
    have hLe := hL.le
    have hG := first_guess n L hL
    have g1 : (0 : Int) ≤ L := by omega
    have g2 : (L : Int) ≤ 126 := by omega
    have GU := Lib.hid hG
    clear hG hLe t1
    go_upto_block 0 with (fail)
    go_wp2_with fail
    have hxg : IntKind.u64.wrap (2 ^ ((L + 1) / 2)) = ((2 ^ ((L + 1) / 2) : Nat) : Int) := by
      have := GU.out.2
      rw [pow_int, IntKind.wrap_u64]
      generalize 2 ^ ((L + 1) / 2) = z at *
      omega
    rw [hxg]
    have hxp := Nat.two_pow_pos ((L + 1) / 2)
    have HXP := Lib.hid hxp
    clear hxp hxg
    generalize 2 ^ ((L + 1) / 2) = X0 at *
    go_loopw [3] (fun x wr => ∃ k : Nat, x = .int .u64 k ∧ Hid (isq n ≤ k ∧ 0 < k ∧ k ≤ 9223372036854775808) ∧ wr.heap[w.heap.size]? = some (.cells #[.int .i64 h, .int .u64 l] 27 (0, 0)) ∧ w.heap.size < wr.heap.size ∧ Below w.heap.size w wr) (fun x _ => (intOf x).toNat)
    case atStart => exact ⟨X0, rfl, ⟨GU.out.1, HXP.out, GU.out.2⟩, e1, hw1, hB1⟩
    case round =>
      obtain ⟨k, rfl, HK, e2, hw2, hB2⟩ := hrel
      clear GU HXP g1 g2 e1 hw1 hB1 hL
      have a0 : wr.cell? ⟨w.heap.size, 0, none⟩ = some (.int .i64 h) := by rw [cell_of_row wr _ _ _ _ _ e2]; rfl
      have a1 : wr.cell? ⟨w.heap.size, 1, none⟩ = some (.int .u64 l) := by rw [cell_of_row wr _ _ _ _ _ e2]; rfl
      have E2 := Lib.hid e2
      clear e2
      go_wp2_with fail
      refine (div64_at _ _ _ (n / 18446744073709551616) (n % 18446744073709551616) k _ HH.out HL.out rfl (Nat.mod_lt _ (by omega)) (newton_room hn.out HK.out.1 HK.out.2.1) (by have := HK.out.2.2; omega)).mono ?_
      rintro e w3 ⟨rfl, hb⟩
      rw [HM.out]
      have e3 := (hb.block _ hw2).trans E2.out
      have hB3 := hB2.trans (hb.mono (Nat.le_of_lt hw2))
      have hw3 := Nat.lt_of_lt_of_le hw2 hb.size
      clear E2 a0 a1 hb hB2 hw2
      have E3 := Lib.hid e3
      clear e3
      by_cases hq : k ≤ n / k
      · have HE := Lib.hid (newton_end HK.out.2.1 HK.out.1 hq)
        have t3 : (k : Int) ≤ ((n / k : Nat) : Int) := by omega
        clear hq
        generalize n / k = q at *
        go_wp2_with fail
        go_ret
        exact ⟨ret_int (by rw [← HE.out]), hB3⟩
      · have HS := Lib.hid (newton_step (n := n) HK.out.2.1)
        have t3 : ¬ (k : Int) ≤ ((n / k : Nat) : Int) := by omega
        have hk2 : (k : Int) ≤ 9223372036854775808 := by have := HK.out.2.2; omega
        have hq0 : (0 : Int) ≤ ((n / k : Nat) : Int) := Int.natCast_nonneg _
        clear hq
        generalize n / k = q at *
        go_wp2_with fail
        go_roundw
        case rel =>
          have h3 := HK.out
          refine ⟨(k + q) / 2, ?_, ⟨HS.out, ?_, by omega⟩, E3.out, hw3, hB3⟩
          · rw [show ((k : Int) + q) / 2 = (((k + q) / 2 : Nat) : Int) by omega]
          · have := HS.out
            rcases Nat.eq_zero_or_pos ((k + q) / 2) with hz | hz
            · exfalso
              have h4 := (isq_spec n).2
              have h5 := H0.out
              have h6 : isq n = 0 := by omega
              rw [h6] at h4
              omega
            · exact hz
        case measure => simp [intOf]; omega
end Go.Proofs.Ytahedampmjfoeaa
