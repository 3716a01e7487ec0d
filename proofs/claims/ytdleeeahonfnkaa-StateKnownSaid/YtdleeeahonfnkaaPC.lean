/- Package wide: quotients, roots. -/
import Derived.Test.YtdleeeahonfnkaaPA
import Derived.Test.YtdleeeahonfnkaaPB
import Derived.Deep.CutBlock
import Derived.Deep.DeepCutAuto

/- DivW -/
namespace Go.Proofs.Ytdleeeahonfnkaa
open Go.RowKit

theorem div64_low (lo y : Int) (w : World) (l0 : 0 ≤ lo) (l1 : lo < 18446744073709551616) (y0 : 0 < y) :
    Calls Try.prog 95 #[.int .u64 0, .int .u64 lo, .int .u64 y] w fun e w' => e = .returned (.tuple #[.int .u64 (lo / y), .int .u64 (lo % y)]) ∧ Below w.heap.size w w' := by
  have t1 : (y == 0) = false := by rw [beq_eq_false_iff_ne]; omega
  have t2 : ¬ y ≤ 0 := by omega
  have t3 : ¬ y = 0 := by omega
  go_enter Try.func95, Try.ntmps95
  go_wp2_with fail
  go_quiet (fail)
  go_wp2_with fail
  go_ret2
  exact ⟨rfl, below_drewN (Below.refl _ _) _⟩

/-- What the divisor's leading zeros are good for. -/
theorem norm_facts (hi lo y : Nat) (h0 : 0 < hi) (l1 : lo < 18446744073709551616) (y0 : hi < y) (y1 : y < 18446744073709551616) :
    ∃ s Y U L a b : Nat, (64 - (Lib.bitLen y : Int)) = s ∧ s ≤ 63 ∧ IntKind.u64.wrap ((y : Int) * 2 ^ s) = Y ∧ bits .or .u64 (IntKind.u64.wrap ((hi : Int) * 2 ^ s)) ((lo : Int) / 2 ^ (64 - s)) = U ∧ IntKind.u64.wrap ((lo : Int) * 2 ^ s) = L ∧
      Y / 4294967296 = a ∧ Y % 4294967296 = b ∧ y * 2 ^ s = Y ∧ Y < 18446744073709551616 ∧ 0 < a ∧ U < Y ∧ L < 18446744073709551616 ∧
      (hi * 18446744073709551616 + lo) * 2 ^ s = (U * 4294967296 + L / 4294967296) * 4294967296 + L % 4294967296 := by
  have hl := Lib.bitLen_le y 64 (by omega) y1
  have hp := bitLen_pos y (by omega) y1
  obtain ⟨s, hs⟩ : ∃ s, s + Lib.bitLen y = 64 := ⟨64 - Lib.bitLen y, by omega⟩
  have hs63 : s ≤ 63 := by omega
  have hlow : 2 ^ (63 - s) ≤ y := by
    rcases Nat.lt_or_ge y (2 ^ (63 - s)) with h | h
    · have := (bitLen_iff y (63 - s) (by omega) y1).2 h
      omega
    · exact h
  have hup : y < 2 ^ (64 - s) := by
    by_cases hz : s = 0
    · subst hz; exact y1
    · exact (bitLen_iff y (64 - s) (by omega) y1).1 (by omega)
  have hP : 0 < 2 ^ s := Nat.two_pow_pos s
  have hPQ : 2 ^ s * 2 ^ (64 - s) = 18446744073709551616 := by rw [← Nat.pow_add, show s + (64 - s) = 64 by omega]
  have hPR : 2 ^ s * 2 ^ (63 - s) = 9223372036854775808 := by rw [← Nat.pow_add, show s + (63 - s) = 63 by omega]
  have hY1 : y * 2 ^ s < 18446744073709551616 := by
    have := Nat.mul_lt_mul_of_pos_right hup hP
    rw [Nat.mul_comm (2 ^ (64 - s)), hPQ] at this
    exact this
  have hY2 : 9223372036854775808 ≤ y * 2 ^ s := by
    have := Nat.mul_le_mul_right (2 ^ s) hlow
    rw [Nat.mul_comm (2 ^ (63 - s)), hPR] at this
    exact this
  have hH : (hi + 1) * 2 ^ s ≤ y * 2 ^ s := Nat.mul_le_mul_right _ y0
  rw [Nat.add_mul, Nat.one_mul] at hH
  have hlo2 : lo / 2 ^ (64 - s) < 2 ^ s := by
    refine (Nat.div_lt_iff_lt_mul (Nat.two_pow_pos _)).2 ?_
    rw [hPQ]; exact l1
  have wr : ∀ n : Nat, IntKind.u64.wrap ((n : Int) * 2 ^ s) = ((n * 2 ^ s % 18446744073709551616 : Nat) : Int) := fun n => by
    rw [IntKind.wrap_u64, pow_int, ← Int.natCast_mul]; omega
  have hHm : hi * 2 ^ s % 18446744073709551616 = hi * 2 ^ s := Nat.mod_eq_of_lt (by omega)
  have eU : bits .or .u64 (IntKind.u64.wrap ((hi : Int) * 2 ^ s)) ((lo : Int) / 2 ^ (64 - s)) = ((hi * 2 ^ s + lo / 2 ^ (64 - s) : Nat) : Int) := by
    rw [wr, hHm, div_pow_int, or_parts _ _ s (by omega) hlo2 (by omega) (Nat.mul_mod_left _ _)]
  refine ⟨s, y * 2 ^ s, hi * 2 ^ s + lo / 2 ^ (64 - s), lo * 2 ^ s % 18446744073709551616, y * 2 ^ s / 4294967296, y * 2 ^ s % 4294967296, by omega, hs63, ?_, eU, wr lo, rfl, rfl, rfl, hY1, by omega, by omega, Nat.mod_lt _ (by omega), ?_⟩
  · rw [wr, Nat.mod_eq_of_lt hY1]
  · have k1 : lo * 2 ^ s = lo / 2 ^ (64 - s) * 18446744073709551616 + lo * 2 ^ s % 18446744073709551616 := by
      have h1 := Nat.div_add_mod (lo * 2 ^ s) 18446744073709551616
      have h2 : lo * 2 ^ s / 18446744073709551616 = lo / 2 ^ (64 - s) := by
        rw [← hPQ, Nat.mul_comm lo, Nat.mul_div_mul_left _ _ hP]
      rw [h2] at h1
      omega
    have k2 : (hi * 18446744073709551616 + lo) * 2 ^ s = hi * 2 ^ s * 18446744073709551616 + lo * 2 ^ s := by rw [Nat.add_mul, Nat.mul_right_comm]
    rw [k2]
    generalize hi * 2 ^ s = X at *
    generalize lo / 2 ^ (64 - s) = Z at *
    generalize lo * 2 ^ s = V at *
    omega

theorem nat_div (a b : Nat) : ((a : Int) / (b : Int)) = ((a / b : Nat) : Int) := (Int.natCast_ediv a b).symm
theorem up_one (q : Nat) (h : 1 ≤ q) : ((q : Int) - 1) = ((q - 1 : Nat) : Int) := by omega
set_option maxHeartbeats 4000000 in
theorem div64_high (hi lo y : Nat) (w : World) (h0 : 0 < hi) (l1 : lo < 18446744073709551616) (y0 : hi < y) (y1 : y < 18446744073709551616) :
    Calls Try.prog 95 #[.int .u64 hi, .int .u64 lo, .int .u64 y] w fun e w' => e = .returned (.tuple #[.int .u64 (((hi * 18446744073709551616 + lo) / y : Nat) : Int), .int .u64 (((hi * 18446744073709551616 + lo) % y : Nat) : Int)]) ∧ Below w.heap.size w w' := by
  obtain ⟨s, Y, U, L, a, b, f1, f2, f3, f4, f5, f6, f7, f8, f9, f10, f11, f12, f13⟩ := norm_facts hi lo y h0 l1 y0 y1
  have hYab : Y = a * 4294967296 + b := by omega
  have hb : b < 4294967296 := by omega
  have ha : a < 4294967296 := by omega
  have hUab : U < a * 4294967296 + b := by omega
  have HT := Lib.hid (two_qt (hi * 18446744073709551616 + lo) y s U L a b Y f13 hYab f8 f10)
  have F3 := Lib.hid f3
  have F4 := Lib.hid f4
  have F5 := Lib.hid f5
  have F6 := Lib.hid f6
  have FYab := Lib.hid hYab
  have t1 : ((y : Int) == 0) = false := by rw [beq_eq_false_iff_ne]; omega
  have t2 : ¬ (y : Int) ≤ hi := by omega
  have t3 : ((hi : Int) == 0) = false := by rw [beq_eq_false_iff_ne]; omega
  have HL := Lib.hid (show (64 - (Lib.bitLen (y : Int).toNat : Int)) = s by rw [Int.toNat_natCast]; exact f1)
  have s2 : (0 : Int) ≤ s := by omega
  have s3 : (s : Int) ≤ 63 := by omega
  have hy0 : (0 : Int) ≤ y := by omega
  have hy1 : (y : Int) ≤ 18446744073709551615 := by omega
  have hYb : (Y : Int) < 18446744073709551616 := by omega
  have FA := Lib.hid (show ((Y : Int) / 4294967296) = (a : Int) by omega)
  have FB := Lib.hid (show bits .and .u64 (Y : Int) 4294967295 = (b : Int) by rw [and_mask _ (by omega) hYb]; omega)
  have c1 : L / 4294967296 < 4294967296 := by omega
  have c2 : L % 4294967296 < 4294967296 := by omega
  have FC := Lib.hid (show ((L : Int) / 4294967296) = ((L / 4294967296 : Nat) : Int) by omega)
  have FD := Lib.hid (show bits .and .u64 (L : Int) 4294967295 = ((L % 4294967296 : Nat) : Int) by rw [and_mask _ (by omega) (by omega)]; omega)
  clear f1 f3 f4 f5 f6 f7 f8 f13 hYab
  go_enter Try.func95, Try.ntmps95
  go_wp2_with fail
  refine (lead_any y _ hy0 hy1).mono ?_
  rintro e w' ⟨rfl, rfl⟩
  rw [HL.out]
  go_upto_region 15 with (fail)
  rw [F3.out, F4.out, F5.out, FA.out, FB.out, FC.out, FD.out]
  generalize hc : L / 4294967296 = c at *
  generalize hd : L % 4294967296 = d at *
  clear hc hd FA FB FC FD F3 F4 F5 F6 HL t1 t2 t3 f12 y1
  have a0 : (0 : Int) < a := by omega
  have a1 : (a : Int) < 4294967296 := by omega
  have a2 : ¬ (a : Int) = 0 := by omega
  have b1 : (b : Int) < 4294967296 := by omega
  have c3 : (c : Int) < 4294967296 := by omega
  have d3 : (d : Int) < 4294967296 := by omega
  have u3 : (U : Int) < 18446744073709551616 := by omega
  have hq0 := qt_first (b := b) (c := c) (by omega : 0 < a) (by omega) hUab
  have hqU : U / a * a ≤ U := Nat.div_mul_le_self U a
  have hqle : U / a ≤ U := Nat.div_le_self U a
  have hmod := Nat.div_add_mod' U a
  have hml := Nat.mod_lt U (by omega : 0 < a)
  go_upto_region 16 with (fail)
  rw [nat_div]
  generalize U / a = q0 at *
  have HMOD := Lib.hid hmod
  have p1 : (0 : Int) ≤ (q0 : Int) * a := by rw [← Int.natCast_mul]; omega
  have p2 : (q0 : Int) * a ≤ U := by rw [← Int.natCast_mul]; omega
  clear hmod
  go_upto_block 0 with (fail)
  go_cut [15] (fun x wc => wc = w ∧ x = .int .u64 (qt U a b c : Nat))
  case rest =>
    obtain ⟨rfl, rfl⟩ := hcut
    clear hqle hqU hml p1 p2 HMOD hq0
    go_upto_region 22 with (fail)
    rw [rt_wrap U a b c Y FYab.out f9 f10]
    have hRY : rt U a b c < a * 4294967296 + b := rt_lt f10
    have HQ1 := Lib.hid (qt_small (b := b) (c := c) f10 c1 hUab)
    generalize hR : rt U a b c = R at *
    have hR2 : R < 18446744073709551616 := by have := FYab.out; omega
    have u4 : (R : Int) < 18446744073709551616 := by omega
    have hq0 := qt_first (b := b) (c := d) f10 c2 hRY
    have hqU : R / a * a ≤ R := Nat.div_mul_le_self R a
    have hqle : R / a ≤ R := Nat.div_le_self R a
    have hmod := Nat.div_add_mod' R a
    have hml := Nat.mod_lt R f10
    go_upto_region 23 with (fail)
    rw [nat_div]
    generalize R / a = q0 at *
    have HMOD := Lib.hid hmod
    have p1 : (0 : Int) ≤ (q0 : Int) * a := by rw [← Int.natCast_mul]; omega
    have p2 : (q0 : Int) * a ≤ R := by rw [← Int.natCast_mul]; omega
    clear hmod
    go_upto_block 2 with (fail)
    go_cut [18] (fun x w2 => w2 = wc ∧ x = .int .u64 (qt R a b d : Nat))
    case rest =>
      obtain ⟨rfl, rfl⟩ := hcut
      have HQ2 := qt_small (b := b) (c := d) f10 c2 hRY
      have qb1 : (qt U a b c : Int) < 4294967296 := by have := HQ1.out; omega
      have qb2 : (qt R a b d : Int) < 4294967296 := by omega
      have qb3 : (0 : Int) ≤ (qt U a b c : Int) := by omega
      have qb4 : (0 : Int) ≤ (qt R a b d : Int) := by omega
      have RW := Lib.hid (rt_wrap R a b d Y FYab.out f9 f10)
      clear hq0 hqU hqle hml p1 p2 HMOD HQ2 hRY hR2 f9 f10 f11 hb ha hUab c1 c2 l1 y0 h0
      go_wp2_with fail
      rw [RW.out]
      go_ret2
      refine ⟨tuple2 ?_ ?_, Below.refl _ _⟩
      · rw [← HT.out.1]; simp
      · rw [← HT.out.2, div_pow_int]
    case first =>
      go_wp2_with fail
      go_loop [18, 16] (fun x z => ∃ q r : Nat, x = .int .u64 q ∧ z = .int .u64 r ∧ (r : Int) < 4294967296 ∧ (q : Int) < 18446744073709551616 ∧ Hid (q * a + r = R ∧ qt R a b d ≤ q)) (fun x _ => (intOf x).toNat)
      case atStart =>
        have hm := HMOD.out
        refine ⟨q0, R - q0 * a, rfl, ?_, by omega, by omega, ⟨by omega, hq0⟩⟩
        rw [show ((R - q0 * a : Nat) : Int) = (R : Int) - q0 * a by rw [← Int.natCast_mul]; omega]
      case round =>
        obtain ⟨q, r, rfl, rfl, r3, q3, HI⟩ := hrel
        have r0 : (0 : Int) ≤ r := by omega
        have q1 : (0 : Int) ≤ q := by omega
        have c0 : (0 : Int) ≤ d := by omega
        clear hqle hqU hml p1 p2 HMOD hq0
        have NF := Lib.hid (And.intro f10 (And.intro hb (And.intro c2 hRY)))
        clear f9 f10 f11 hb ha hUab c1 c2 l1 y0 h0 hRY hR2
        by_cases hA : 4294967296 ≤ q
        · have hA' : (4294967296 : Int) ≤ q := by omega
          have HS := Lib.hid (qt_step HI.out.1 NF.out.1 NF.out.2.2.1 NF.out.2.2.2 (.inl hA))
          clear hA
          by_cases hK : (4294967296 : Int) ≤ (r : Int) + a
          · go_wp2_with fail
            go_meet
            case rel =>
              refine ⟨rfl, ?_⟩
              rw [up_one q HS.out.2, qt_brk (q := q - 1) (r := r + a) (dec_mul HS.out.2 HI.out.1) NF.out.1 NF.out.2.1 NF.out.2.2.2 (by omega) HS.out.1]
          · go_wp2_with fail
            go_round
            case rel => exact ⟨q - 1, r + a, by rw [up_one q HS.out.2], by simp, by omega, by omega, dec_mul HS.out.2 HI.out.1, HS.out.1⟩
            case measure => have hq1 := HS.out.2; simp [intOf]; omega
        · have hA' : ¬ (4294967296 : Int) ≤ q := by omega
          have HA := Lib.hid hA
          clear hA
          have m0 : (0 : Int) ≤ (q : Int) * b := by rw [← Int.natCast_mul]; omega
          have m1 : (q : Int) * b < 18446744073709551616 := by
            have h1 : q * b ≤ 4294967295 * 4294967295 := Nat.mul_le_mul (by omega) (by omega)
            rw [← Int.natCast_mul]; omega
          by_cases hB : 4294967296 * (r : Int) + d < (q : Int) * b
          · have HS := Lib.hid (qt_step HI.out.1 NF.out.1 NF.out.2.2.1 NF.out.2.2.2 (.inr (by rw [← Int.natCast_mul] at hB; omega)))
            by_cases hK : (4294967296 : Int) ≤ (r : Int) + a
            · have hq1 : (1 : Int) ≤ q := by have := HS.out.2; omega
              go_wp2_with fail
              go_meet
              case rel =>
                refine ⟨rfl, ?_⟩
                rw [up_one q HS.out.2, qt_brk (q := q - 1) (r := r + a) (dec_mul HS.out.2 HI.out.1) NF.out.1 NF.out.2.1 NF.out.2.2.2 (by omega) HS.out.1]
            · have hq1 : (1 : Int) ≤ q := by have := HS.out.2; omega
              go_wp2_with fail
              go_round
              case rel => exact ⟨q - 1, r + a, by rw [up_one q HS.out.2], by simp, by omega, by omega, dec_mul HS.out.2 HI.out.1, HS.out.1⟩
              case measure => have hq1 := HS.out.2; simp [intOf]; omega
          · have HE := Lib.hid (qt_stop HI.out.1 NF.out.1 (by rw [← Int.natCast_mul] at hB; omega) HI.out.2)
            go_wp2_with fail
            go_meet
            case rel => exact ⟨rfl, by rw [← HE.out]⟩
  case first =>
    go_wp2_with fail
    go_loop [15, 16] (fun x z => ∃ q r : Nat, x = .int .u64 q ∧ z = .int .u64 r ∧ (r : Int) < 4294967296 ∧ (q : Int) < 18446744073709551616 ∧ Hid (q * a + r = U ∧ qt U a b c ≤ q)) (fun x _ => (intOf x).toNat)
    case atStart =>
      have hm := HMOD.out
      refine ⟨q0, U - q0 * a, rfl, ?_, by omega, by omega, ⟨by omega, hq0⟩⟩
      rw [show ((U - q0 * a : Nat) : Int) = (U : Int) - q0 * a by rw [← Int.natCast_mul]; omega]
    case round =>
      obtain ⟨q, r, rfl, rfl, r3, q3, HI⟩ := hrel
      have r0 : (0 : Int) ≤ r := by omega
      have q1 : (0 : Int) ≤ q := by omega
      have c0 : (0 : Int) ≤ c := by omega
      clear hqle hqU hml p1 p2 HMOD hq0
      have NF := Lib.hid (And.intro f10 (And.intro hb (And.intro c1 hUab)))
      clear f9 f10 f11 hb ha hUab c1 c2 l1 y0 h0
      by_cases hA : 4294967296 ≤ q
      · have hA' : (4294967296 : Int) ≤ q := by omega
        have HS := Lib.hid (qt_step HI.out.1 NF.out.1 NF.out.2.2.1 NF.out.2.2.2 (.inl hA))
        clear hA
        by_cases hK : (4294967296 : Int) ≤ (r : Int) + a
        · go_wp2_with fail
          go_meet
          case rel =>
            refine ⟨rfl, ?_⟩
            rw [up_one q HS.out.2, qt_brk (q := q - 1) (r := r + a) (dec_mul HS.out.2 HI.out.1) NF.out.1 NF.out.2.1 NF.out.2.2.2 (by omega) HS.out.1]
        · go_wp2_with fail
          go_round
          case rel => exact ⟨q - 1, r + a, by rw [up_one q HS.out.2], by simp, by omega, by omega, dec_mul HS.out.2 HI.out.1, HS.out.1⟩
          case measure => have hq1 := HS.out.2; simp [intOf]; omega
      · have hA' : ¬ (4294967296 : Int) ≤ q := by omega
        have HA := Lib.hid hA
        clear hA
        have m0 : (0 : Int) ≤ (q : Int) * b := by rw [← Int.natCast_mul]; omega
        have m1 : (q : Int) * b < 18446744073709551616 := by
          have h1 : q * b ≤ 4294967295 * 4294967295 := Nat.mul_le_mul (by omega) (by omega)
          rw [← Int.natCast_mul]; omega
        by_cases hB : 4294967296 * (r : Int) + c < (q : Int) * b
        · have HS := Lib.hid (qt_step HI.out.1 NF.out.1 NF.out.2.2.1 NF.out.2.2.2 (.inr (by rw [← Int.natCast_mul] at hB; omega)))
          by_cases hK : (4294967296 : Int) ≤ (r : Int) + a
          · have hq1 : (1 : Int) ≤ q := by have := HS.out.2; omega
            go_wp2_with fail
            go_meet
            case rel =>
              refine ⟨rfl, ?_⟩
              rw [up_one q HS.out.2, qt_brk (q := q - 1) (r := r + a) (dec_mul HS.out.2 HI.out.1) NF.out.1 NF.out.2.1 NF.out.2.2.2 (by omega) HS.out.1]
          · have hq1 : (1 : Int) ≤ q := by have := HS.out.2; omega
            go_wp2_with fail
            go_round
            case rel => exact ⟨q - 1, r + a, by rw [up_one q HS.out.2], by simp, by omega, by omega, dec_mul HS.out.2 HI.out.1, HS.out.1⟩
            case measure => have hq1 := HS.out.2; simp [intOf]; omega
        · have HE := Lib.hid (qt_stop HI.out.1 NF.out.1 (by rw [← Int.natCast_mul] at hB; omega) HI.out.2)
          go_wp2_with fail
          go_meet
          case rel => exact ⟨rfl, by rw [← HE.out]⟩

theorem div64_any (hi lo y : Nat) (w : World) (l1 : lo < 18446744073709551616) (y0 : hi < y) (y1 : y < 18446744073709551616) :
    Calls Try.prog 95 #[.int .u64 hi, .int .u64 lo, .int .u64 y] w fun e w' => e = .returned (.tuple #[.int .u64 (((hi * 18446744073709551616 + lo) / y : Nat) : Int), .int .u64 (((hi * 18446744073709551616 + lo) % y : Nat) : Int)]) ∧ Below w.heap.size w w' := by
  by_cases h : 0 < hi
  · exact div64_high hi lo y w h l1 y0 y1
  · obtain rfl : hi = 0 := by omega
    refine (div64_low lo y w (by omega) (by omega) (by omega)).mono fun e w' ⟨he, hb⟩ => ⟨he.trans (tuple2 ?_ ?_), hb⟩
    · rw [Nat.zero_mul, Nat.zero_add, nat_div]
    · rw [Nat.zero_mul, Nat.zero_add, Int.natCast_emod]
end Go.Proofs.Ytdleeeahonfnkaa

/- WideG -/
namespace Go.Proofs.Ytdleeeahonfnkaa
open Go.RowKit

structure Lt64 (n : Nat) : Prop where
  out : n < 18446744073709551616
theorem div64_at (x z t : Int) (hi lo y : Nat) (w : World) (hx : x = hi) (hz : z = lo) (ht : t = y) (l1 : lo < 18446744073709551616) (y0 : hi < y) (y1 : y < 18446744073709551616) :
    Calls Try.prog 95 #[.int .u64 x, .int .u64 z, .int .u64 t] w fun e w' => e = .returned (.tuple #[.int .u64 (((hi * 18446744073709551616 + lo) / y : Nat) : Int), .int .u64 (((hi * 18446744073709551616 + lo) % y : Nat) : Int)]) ∧ Below w.heap.size w w' := by
  subst hx hz ht; exact div64_any hi lo y w l1 y0 y1
theorem inW_small (d : Int) (h1 : -9223372036854775808 ≤ d) (h2 : d ≤ 9223372036854775807) : InW d := ⟨by omega, by omega⟩
theorem xor_sign (v d : Int) : (decide (wh v < 0) != decide (d < 0)) = (decide (v < 0) != decide (d < 0)) := by rw [decide_eq_decide.2 (wh_neg v)]
def divZ (v d : Int) : Int := withSign (decide (wh v < 0) != decide (d < 0)) (dq v.natAbs d.natAbs)
theorem div_big (v d : Int) (h : d.natAbs ≤ v.natAbs / 18446744073709551616) (h0 : 0 < d.natAbs) : divZ v d < -9223372036854775808 ∨ 9223372036854775807 < divZ v d := by
  have h1 : 18446744073709551616 ≤ v.natAbs / d.natAbs := by
    rw [Nat.le_div_iff_mul_le h0]
    omega
  have h2 : 18446744073709551616 ≤ dq v.natAbs d.natAbs := by unfold dq; omega
  unfold divZ withSign
  split <;> omega
theorem div_big2 (v d : Int) (h : 9223372036854775808 < v.natAbs / d.natAbs) : divZ v d < -9223372036854775808 ∨ 9223372036854775807 < divZ v d := by
  have h2 : 9223372036854775808 < dq v.natAbs d.natAbs := by unfold dq; omega
  unfold divZ withSign
  split <;> omega
set_option maxHeartbeats 4000000 in
theorem wdiv_any (v d : Int) (w : World) (hv : InW v) (d1 : -9223372036854775808 ≤ d) (d2 : d ≤ 9223372036854775807) (d0 : d ≠ 0) :
    Calls Try.prog 18 #[Wv v, .int .i64 d] w fun e w' => e = .returned (.tuple #[.int .i64 (sval (divZ v d)), .bool (sok (divZ v d))]) ∧ Below w.heap.size w w' := by
  have hd := inW_small d d1 d2
  have hlD : wl d.natAbs = (d.natAbs : Int) := by unfold wl; omega
  have hlo := wlN v.natAbs
  have hhi := whN v.natAbs
  have HLD := Lib.hid hlD
  have HLO := Lib.hid hlo
  have HHI := Lib.hid hhi
  have hDp : 0 < d.natAbs := by omega
  have hDb : d.natAbs < 18446744073709551616 := by omega
  have hmod : v.natAbs / 18446744073709551616 * 18446744073709551616 + v.natAbs % 18446744073709551616 = v.natAbs := Nat.div_add_mod' _ _
  have HM := Lib.hid hmod
  have HB := Lib.hid (And.intro hDp hDb)
  clear hlD hlo hhi hmod hDp hDb d0
  go_enter Try.func18, Try.ntmps18
  go_wp2_with fail
  generalize hW : World.alloc w _ = W
  have e0 : W.heap[w.heap.size]? = some (.cells #[.int .i64 (wh v), .int .u64 (wl v)] 24 (0, 0)) := by subst hW; exact heap_alloc_new w _
  have a0 : W.cell? ⟨w.heap.size, 0, none⟩ = some (.int .i64 (wh v)) := by rw [cell_of_row W _ _ _ _ _ e0]; rfl
  have hB : Below w.heap.size w W := by subst hW; exact (Below.refl _ _).alloc (Nat.le_refl _) _
  have hw : w.heap.size < W.heap.size := by subst hW; simp
  have hw' := Nat.le_of_lt hw
  clear hW e0
  refine (wsize_any v _ hv).mono ?_
  rintro e w1 ⟨rfl, hb⟩
  have hE1 := Ext.call hw' (Ext.start0 hB) hb
  clear hb hB
  go_wp2_with fail
  refine (wof_any d _ d1 d2).mono ?_
  rintro e w2 ⟨rfl, hb⟩
  have hE2 := Ext.call hw' hE1 hb
  clear hb hE1
  go_wp2_with fail
  refine (wsize_any d _ hd).mono ?_
  rintro e w3 ⟨rfl, hb⟩
  obtain ⟨j1, j4, j5⟩ := Ext.call hw' hE2 hb
  clear hb hE2
  by_cases hbig : d.natAbs ≤ v.natAbs / 18446744073709551616
  · have hN := sok_no (div_big v d hbig HB.out.1)
    have HN := Lib.hid hN
    have t1 : wl d.natAbs ≤ wh v.natAbs := by rw [HLD.out, HHI.out]; omega
    clear hN hbig
    go_wp2_with fail
    go_ret2
    exact ⟨tupleb HN.out.2 HN.out.1, j4⟩
  · have t1 : ¬ wl d.natAbs ≤ wh v.natAbs := by rw [HLD.out, HHI.out]; omega
    have HL := Lib.hid (show v.natAbs / 18446744073709551616 < d.natAbs by omega)
    clear hbig
    go_wp2_with fail
    refine (div64_at _ _ _ (v.natAbs / 18446744073709551616) (v.natAbs % 18446744073709551616) d.natAbs _ HHI.out HLO.out HLD.out (Nat.mod_lt _ (by omega)) HL.out HB.out.2).mono ?_
    rintro e w4 ⟨rfl, hb⟩
    rw [HM.out]
    obtain ⟨j1', j4', j5'⟩ := Ext.call hw' ⟨j1, j4, j5⟩ hb
    clear hb j1 j4 j5
    have a1 : w4.cell? ⟨w.heap.size, 0, none⟩ = some (.int .i64 (wh v)) := (j1' _ _ hw).trans a0
    clear j1'
    by_cases hq : 9223372036854775808 < v.natAbs / d.natAbs
    · have HN := Lib.hid (sok_no (div_big2 v d hq))
      have t2 : (9223372036854775808 : Int) < ((v.natAbs / d.natAbs : Nat) : Int) := by omega
      clear hq
      generalize v.natAbs / d.natAbs = Q at *
      generalize v.natAbs % d.natAbs = R at *
      go_wp2_with fail
      go_ret2
      exact ⟨tupleb HN.out.2 HN.out.1, j4'⟩
    · have t2 : ¬ (9223372036854775808 : Int) < ((v.natAbs / d.natAbs : Nat) : Int) := by omega
      have hR := Nat.mod_lt v.natAbs HB.out.1
      have DQ := Lib.hid (show dq v.natAbs d.natAbs = v.natAbs / d.natAbs + (if d.natAbs ≤ 2 * (v.natAbs % d.natAbs) then 1 else 0) from rfl)
      have HQ := Lib.hid (show ((v.natAbs / d.natAbs : Nat) : Int) ≤ 9223372036854775808 by omega)
      clear hq
      generalize v.natAbs / d.natAbs = Q at *
      generalize v.natAbs % d.natAbs = R at *
      have r1 : (R : Int) < wl d.natAbs := by rw [HLD.out]; omega
      have r0 : (0 : Int) ≤ R := by omega
      have r2 : wl d.natAbs < 18446744073709551616 := wl_hi _
      have q0 : (0 : Int) ≤ Q := by omega
      by_cases hr : d.natAbs ≤ 2 * R
      · have t3 : wl d.natAbs - R ≤ R := by rw [HLD.out]; omega
        have HX0 := (show (Q : Int) + 1 = (dq v.natAbs d.natAbs : Nat) by rw [DQ.out, if_pos hr]; omega)
        have HY : Lt64 (dq v.natAbs d.natAbs) := ⟨by have := HQ.out; rw [DQ.out]; split <;> omega⟩
        have HX := Lib.hid HX0
        clear HX0 hr hR HB HL HM HLO HHI HLD DQ HQ
        generalize hDQ : dq v.natAbs d.natAbs = K at *
        generalize (Q : Int) = x at *
        generalize (R : Int) = z at *
        generalize wl (d.natAbs : Int) = y at *
        go_wp2_with fail
        subst hDQ
        refine (signed_at _ (dq v.natAbs d.natAbs) _ _ HX.out HY.out).mono ?_
        rintro e w5 ⟨rfl, rfl⟩
        go_wp2_with fail
        go_ret2
        exact ⟨rfl, j4'⟩
      · have t3 : ¬ wl d.natAbs - R ≤ R := by rw [HLD.out]; omega
        have HX0 := (show (Q : Int) = (dq v.natAbs d.natAbs : Nat) by rw [DQ.out, if_neg hr]; omega)
        have HY : Lt64 (dq v.natAbs d.natAbs) := ⟨by have := HQ.out; rw [DQ.out]; split <;> omega⟩
        have HX := Lib.hid HX0
        clear HX0 hr hR HB HL HM HLO HHI HLD DQ HQ
        generalize hDQ : dq v.natAbs d.natAbs = K at *
        generalize (Q : Int) = x at *
        generalize (R : Int) = z at *
        generalize wl (d.natAbs : Int) = y at *
        go_wp2_with fail
        subst hDQ
        refine (signed_at _ (dq v.natAbs d.natAbs) _ _ HX.out HY.out).mono ?_
        rintro e w5 ⟨rfl, rfl⟩
        go_wp2_with fail
        go_ret2
        exact ⟨rfl, j4'⟩
theorem wdiv_zero (v : Int) (w : World) (hv : InW v) :
    Calls Try.prog 18 #[Wv v, .int .i64 0] w fun e w' => e = .returned (.tuple #[.int .i64 0, .bool false]) ∧ Below w.heap.size w w' := by
  have t1 : (0 : Int) ≤ wh v.natAbs := by unfold wh; omega
  go_enter Try.func18, Try.ntmps18
  go_wp2_with fail
  generalize hW : World.alloc w _ = W
  have hB : Below w.heap.size w W := by subst hW; exact (Below.refl _ _).alloc (Nat.le_refl _) _
  have hw : w.heap.size < W.heap.size := by subst hW; simp
  have hw' := Nat.le_of_lt hw
  clear hW
  refine (wsize_any v _ hv).mono ?_
  rintro e w1 ⟨rfl, hb⟩
  have hE1 := Ext.call hw' (Ext.start0 hB) hb
  clear hb hB
  go_wp2_with fail
  refine (wof_any 0 _ (by omega) (by omega)).mono ?_
  rintro e w2 ⟨rfl, hb⟩
  have hE2 := Ext.call hw' hE1 hb
  clear hb hE1
  go_wp2_with fail
  refine (wsize_any 0 _ inW_zero).mono ?_
  rintro e w3 ⟨rfl, hb⟩
  obtain ⟨j1, j4, j5⟩ := Ext.call hw' hE2 hb
  clear hb hE2
  rw [show wl ((0 : Int).natAbs : Int) = 0 from rfl]
  go_wp2_with fail
  go_ret2
  exact ⟨rfl, j4⟩
end Go.Proofs.Ytdleeeahonfnkaa

/- WideH -/
namespace Go.Proofs.Ytdleeeahonfnkaa
open Go.RowKit

theorem length_hi (h l : Int) (w : World) (h0 : 0 < h) (h1 : h ≤ 9223372036854775807) :
    Calls Try.prog 154 #[.agg #[.int .i64 h, .int .u64 l]] w fun e w' => e = .returned (.int .i64 (64 + (Lib.bitLen h.toNat : Int))) ∧ Below w.heap.size w w' := by
  have t1 : (h != 0) = true := by rw [bne_iff_ne]; omega
  have hl := len_le64 h (by omega) (by omega)
  go_enter Try.func154, Try.ntmps154
  go_wp2_with fail
  refine (len64_int h _ (by omega) (by omega)).mono ?_
  rintro e w' ⟨rfl, rfl⟩
  go_wp2_with fail
  go_ret
  exact ⟨rfl, (Below.refl _ _).alloc (Nat.le_refl _) _⟩
theorem length_lo (h l : Int) (w : World) (h0 : h = 0) (l0 : 0 ≤ l) (l1 : l < 18446744073709551616) :
    Calls Try.prog 154 #[.agg #[.int .i64 h, .int .u64 l]] w fun e w' => e = .returned (.int .i64 (Lib.bitLen l.toNat : Int)) ∧ Below w.heap.size w w' := by
  have t1 : (h != 0) = false := by rw [h0]; rfl
  clear h0
  go_enter Try.func154, Try.ntmps154
  go_wp2_with fail
  refine (len64_int l _ l0 (by omega)).mono ?_
  rintro e w' ⟨rfl, rfl⟩
  go_wp2_with fail
  go_ret
  exact ⟨rfl, (Below.refl _ _).alloc (Nat.le_refl _) _⟩
structure Lt126 (n : Nat) : Prop where
  out : n < 85070591730234615865843651857942052864
/-- How long the number is: what the first guess is made of. -/
structure LongAs (n L : Nat) : Prop where
  hi : n < 2 ^ L
  le : L ≤ 126
theorem bits_up (x : Nat) (h : x < 18446744073709551616) : x < 2 ^ Lib.bitLen x := by
  have h1 := Lib.bitLen_le x 64 (by omega) h
  by_cases h2 : Lib.bitLen x ≤ 63
  · exact (bitLen_iff x _ h2 h).1 (Nat.le_refl _)
  · rw [show Lib.bitLen x = 64 by omega]; exact h
theorem length_any (h l : Int) (n : Nat) (w : World) (hn : Lt126 n) (hh : h = (n / 18446744073709551616 : Nat)) (hl : l = (n % 18446744073709551616 : Nat)) :
    Calls Try.prog 154 #[.agg #[.int .i64 h, .int .u64 l]] w fun e w' => (∃ L : Nat, e = .returned (.int .i64 L) ∧ LongAs n L) ∧ Below w.heap.size w w' := by
  have hn' := hn.out
  by_cases h0 : h = 0
  · refine (length_lo h l w h0 (by omega) (by omega)).mono fun e w' ⟨he, hb⟩ => ⟨⟨_, he, ?_, ?_⟩, hb⟩
    · rw [hl, Int.toNat_natCast]
      have := bits_up (n % 18446744073709551616) (Nat.mod_lt _ (by omega))
      rw [show n % 18446744073709551616 = n by omega] at *
      exact this
    · have := Lib.bitLen_le l.toNat 64 (by omega) (by omega)
      omega
  · refine (length_hi h l w (by omega) (by omega)).mono fun e w' ⟨he, hb⟩ => ⟨⟨64 + Lib.bitLen h.toNat, by rw [he]; simp, ?_, ?_⟩, hb⟩
    · rw [hh, Int.toNat_natCast, Nat.pow_add]
      have := bits_up (n / 18446744073709551616) (by omega)
      have h2 : (n / 18446744073709551616 + 1) * 2 ^ 64 ≤ 2 ^ Lib.bitLen (n / 18446744073709551616) * 2 ^ 64 := Nat.mul_le_mul_right _ this
      rw [Nat.mul_comm (2 ^ 64)]
      omega
    · have := Lib.bitLen_le h.toNat 62 (by omega) (by omega)
      omega
theorem first_guess (n L : Nat) (h : LongAs n L) : isq n ≤ 2 ^ ((L + 1) / 2) ∧ 2 ^ ((L + 1) / 2) ≤ 2 ^ 63 := by
  refine ⟨isq_le ?_, pow_lt _ 63 (by have := h.le; omega)⟩
  have h1 := pow_lt L ((L + 1) / 2 + (L + 1) / 2) (by omega)
  rw [Nat.pow_add] at h1
  have h2 := h.hi
  have h3 := Nat.mul_le_mul (show 2 ^ ((L + 1) / 2) ≤ 2 ^ ((L + 1) / 2) + 1 by omega) (show 2 ^ ((L + 1) / 2) ≤ 2 ^ ((L + 1) / 2) + 1 by omega)
  omega
set_option maxHeartbeats 2000000 in
theorem floor_zero (h l : Int) (w : World) (hh : h = 0) (hl : l = 0) :
    Calls Try.prog 135 #[.agg #[.int .i64 h, .int .u64 l]] w fun e w' => e = .returned (.int .u64 0) ∧ Below w.heap.size w w' := by
  have t1 : (h == 0) = true := by rw [hh]; rfl
  have t2 : (l == 0) = true := by rw [hl]; rfl
  clear hh hl
  go_enter Try.func135, Try.ntmps135
  go_wp2_with fail
  go_ret
  exact ⟨rfl, (Below.refl _ _).alloc (Nat.le_refl _) _⟩
set_option maxHeartbeats 2000000 in
theorem floor_pos (h l : Int) (n : Nat) (w : World) (hn : Lt126 n) (h0 : 0 < n) (hh : h = (n / 18446744073709551616 : Nat)) (hl : l = (n % 18446744073709551616 : Nat)) :
    Calls Try.prog 135 #[.agg #[.int .i64 h, .int .u64 l]] w fun e w' => e = .returned (.int .u64 (isq n : Nat)) ∧ Below w.heap.size w w' := by
  have HH := Lib.hid hh
  have HL := Lib.hid hl
  have HM := Lib.hid (show n / 18446744073709551616 * 18446744073709551616 + n % 18446744073709551616 = n from Nat.div_add_mod' _ _)
  have hn' := hn.out
  have b1 : 0 ≤ h := by omega
  have b2 : h ≤ 4611686018427387904 := by omega
  have tt : (h == 0) = false ∨ ((h == 0) = true ∧ (l == 0) = false) := by
    by_cases hz : h = 0
    · right; rw [beq_iff_eq, beq_eq_false_iff_ne]; omega
    · left; rw [beq_eq_false_iff_ne]; exact hz
  have H0 := Lib.hid h0
  have b3 : 0 ≤ l := by omega
  have b4 : l < 18446744073709551616 := by omega
  clear hh hl hn' h0
  rcases tt with t1 | ⟨t1, t2⟩
  all_goals
    go_enter Try.func135, Try.ntmps135
    go_wp2_with fail
    generalize hW : World.alloc w _ = W
    have e0 : W.heap[w.heap.size]? = some (.cells #[.int .i64 h, .int .u64 l] 24 (0, 0)) := by subst hW; exact heap_alloc_new w _
    have hB : Below w.heap.size w W := by subst hW; exact (Below.refl _ _).alloc (Nat.le_refl _) _
    have hw : w.heap.size < W.heap.size := by subst hW; simp
    clear hW
    refine (length_any h l n _ hn HH.out HL.out).mono ?_
    rintro e w1 ⟨⟨L, rfl, hL⟩, hb⟩
    have e1 := (hb.block _ hw).trans e0
    have hB1 := hB.trans (hb.mono (Nat.le_of_lt hw))
    have hw1 := Nat.lt_of_lt_of_le hw hb.size
    clear e0 hb hB hw
    have hLe := hL.le
    have hG := first_guess n L hL
    have g1 : (0 : Int) ≤ L := by omega
    have g2 : (L : Int) ≤ 126 := by omega
    have GU := Lib.hid hG
    clear hG hLe t1
    go_upto_block 0 with (fail)
    go_wp2_with fail
    have hxg : IntKind.u64.wrap (2 ^ ((L + 1) / 2)) = ((2 ^ ((L + 1) / 2) : Nat) : Int) := by
      have := GU.out.2
      rw [pow_int, IntKind.wrap_u64]
      generalize 2 ^ ((L + 1) / 2) = z at *
      omega
    rw [hxg]
    have hxp := Nat.two_pow_pos ((L + 1) / 2)
    have HXP := Lib.hid hxp
    clear hxp hxg
    generalize 2 ^ ((L + 1) / 2) = X0 at *
    go_loopw [3] (fun x wr => ∃ k : Nat, x = .int .u64 k ∧ Hid (isq n ≤ k ∧ 0 < k ∧ k ≤ 9223372036854775808) ∧ wr.heap[w.heap.size]? = some (.cells #[.int .i64 h, .int .u64 l] 24 (0, 0)) ∧ w.heap.size < wr.heap.size ∧ Below w.heap.size w wr) (fun x _ => (intOf x).toNat)
    case atStart => exact ⟨X0, rfl, ⟨GU.out.1, HXP.out, GU.out.2⟩, e1, hw1, hB1⟩
    case round =>
      obtain ⟨k, rfl, HK, e2, hw2, hB2⟩ := hrel
      clear GU HXP g1 g2 e1 hw1 hB1 hL
      have a0 : wr.cell? ⟨w.heap.size, 0, none⟩ = some (.int .i64 h) := by rw [cell_of_row wr _ _ _ _ _ e2]; rfl
      have a1 : wr.cell? ⟨w.heap.size, 1, none⟩ = some (.int .u64 l) := by rw [cell_of_row wr _ _ _ _ _ e2]; rfl
      have E2 := Lib.hid e2
      clear e2
      go_wp2_with fail
      refine (div64_at _ _ _ (n / 18446744073709551616) (n % 18446744073709551616) k _ HH.out HL.out rfl (Nat.mod_lt _ (by omega)) (newton_room hn.out HK.out.1 HK.out.2.1) (by have := HK.out.2.2; omega)).mono ?_
      rintro e w3 ⟨rfl, hb⟩
      rw [HM.out]
      have e3 := (hb.block _ hw2).trans E2.out
      have hB3 := hB2.trans (hb.mono (Nat.le_of_lt hw2))
      have hw3 := Nat.lt_of_lt_of_le hw2 hb.size
      clear E2 a0 a1 hb hB2 hw2
      have E3 := Lib.hid e3
      clear e3
      by_cases hq : k ≤ n / k
      · have HE := Lib.hid (newton_end HK.out.2.1 HK.out.1 hq)
        have t3 : (k : Int) ≤ ((n / k : Nat) : Int) := by omega
        clear hq
        generalize n / k = q at *
        go_wp2_with fail
        go_ret
        exact ⟨ret_int (by rw [← HE.out]), hB3⟩
      · have HS := Lib.hid (newton_step (n := n) HK.out.2.1)
        have t3 : ¬ (k : Int) ≤ ((n / k : Nat) : Int) := by omega
        have hk2 : (k : Int) ≤ 9223372036854775808 := by have := HK.out.2.2; omega
        have hq0 : (0 : Int) ≤ ((n / k : Nat) : Int) := Int.natCast_nonneg _
        clear hq
        generalize n / k = q at *
        go_wp2_with fail
        go_roundw
        case rel =>
          have h3 := HK.out
          refine ⟨(k + q) / 2, ?_, ⟨HS.out, ?_, by omega⟩, E3.out, hw3, hB3⟩
          · rw [show ((k : Int) + q) / 2 = (((k + q) / 2 : Nat) : Int) by omega]
          · have := HS.out
            rcases Nat.eq_zero_or_pos ((k + q) / 2) with hz | hz
            · exfalso
              have h4 := (isq_spec n).2
              have h5 := H0.out
              have h6 : isq n = 0 := by omega
              rw [h6] at h4
              omega
            · exact hz
        case measure => simp [intOf]; omega
end Go.Proofs.Ytdleeeahonfnkaa

/- WideI -/
namespace Go.Proofs.Ytdleeeahonfnkaa
open Go.RowKit

def rootN (n : Nat) : Nat := isq n + if isq n < n - isq n * isq n then 1 else 0
theorem wcmp_at (x y : Int) (V : Value) (w : World) (hV : V = Wv y) :
    Calls Try.prog 85 #[Wv x, V] w fun e w' => e = .returned (.int .i64 (cmpI x y)) ∧ Below w.heap.size w w' := by
  subst hV; exact wcmp_any x y w
theorem top_val : Value.agg #[.int .i64 4611686018427387903, .int .u64 9223372036854775808] = Wv 85070591730234615856620279821087277056 := agg2 (by unfold wh; omega) (by unfold wl; omega)
theorem wroot_neg (v : Int) (w : World) (h : v < 0) :
    Calls Try.prog 80 #[Wv v] w fun e w' => e = .returned (.tuple #[.int .i64 0, .bool false]) ∧ Below w.heap.size w w' := by
  have t1 : wh v < 0 := (wh_neg v).2 h
  clear h
  go_enter Try.func80, Try.ntmps80
  go_wp2_with fail
  go_ret2
  exact ⟨rfl, (Below.refl _ _).alloc (Nat.le_refl _) _⟩
theorem cmp_hi (v : Int) (h : 85070591730234615856620279821087277056 < v) : (0 : Int) < cmpI v 85070591730234615856620279821087277056 := by unfold cmpI; rw [if_neg (by omega), if_neg (by omega)]; omega
theorem cmp_lo (v : Int) (h : v ≤ 85070591730234615856620279821087277056) : ¬ (0 : Int) < cmpI v 85070591730234615856620279821087277056 := by
  unfold cmpI
  split
  · omega
  · rw [if_pos (by omega)]; omega
theorem wroot_big (v : Int) (w : World) (_ : 0 ≤ v) (h : 85070591730234615856620279821087277056 < v) :
    Calls Try.prog 80 #[Wv v] w fun e w' => e = .returned (.tuple #[.int .i64 0, .bool false]) ∧ Below w.heap.size w w' := by
  have t1 : ¬ wh v < 0 := fun x => by have := (wh_neg v).1 x; omega
  have t2 := cmp_hi v h
  clear h
  go_enter Try.func80, Try.ntmps80
  go_wp2_with fail
  generalize hW : World.alloc w _ = W
  have hB : Below w.heap.size w W := by subst hW; exact (Below.refl _ _).alloc (Nat.le_refl _) _
  have hw : w.heap.size < W.heap.size := by subst hW; simp
  clear hW
  refine (wcmp_at v _ _ _ top_val).mono ?_
  rintro e w1 ⟨rfl, hb⟩
  have hB1 := hB.trans (hb.mono (Nat.le_of_lt hw))
  clear hb hB hw
  go_wp2_with fail
  go_ret2
  exact ⟨rfl, hB1⟩
theorem floor_any (h l : Int) (n : Nat) (w : World) (hn : Lt126 n) (hh : h = (n / 18446744073709551616 : Nat)) (hl : l = (n % 18446744073709551616 : Nat)) :
    Calls Try.prog 135 #[.agg #[.int .i64 h, .int .u64 l]] w fun e w' => e = .returned (.int .u64 (isq n : Nat)) ∧ Below w.heap.size w w' := by
  rcases Nat.eq_zero_or_pos n with h0 | h0
  · subst h0
    exact (floor_zero h l w (by omega) (by omega)).mono fun e w' ⟨he, hb⟩ => ⟨he, hb⟩
  · exact floor_pos h l n w hn h0 hh hl
theorem isq_lt (n : Nat) (h : n ≤ 85070591730234615856620279821087277056) : isq n ≤ 9223372036854775807 ∧ (isq n < n - isq n * isq n → isq n + 1 ≤ 9223372036854775807) := by
  obtain ⟨g1, g2⟩ := isq_spec n
  have h1 : isq n ≤ 9223372036854775807 := isq_le (by omega)
  refine ⟨h1, fun h2 => ?_⟩
  rcases Nat.lt_or_ge (isq n) 9223372036854775807 with h3 | h3
  · exact h3
  · have h4 : isq n = 9223372036854775807 := by omega
    rw [h4] at h2
    omega
theorem low_diff (v : Int) (n : Nat) (hv : v = n) : IntKind.u64.wrap (wl v - IntKind.u64.wrap ((isq n : Int) * isq n)) = ((n - isq n * isq n : Nat) : Int) ∨ 85070591730234615856620279821087277056 < n := by
  by_cases h : n ≤ 85070591730234615856620279821087277056
  · left
    obtain ⟨g1, g2⟩ := isq_spec n
    have g3 := (isq_lt n h).1
    have e : ((isq n : Int) * isq n) = ((isq n * isq n : Nat) : Int) := by simp
    have e2 : (isq n + 1) * (isq n + 1) = isq n * isq n + 2 * isq n + 1 := by grind
    rw [e, hv]
    generalize isq n * isq n = X at *
    simp only [IntKind.wrap_u64]
    unfold wl
    omega
  · right; omega
set_option maxHeartbeats 2000000 in
theorem wroot_any (v : Int) (w : World) (h0 : 0 ≤ v) (h : v ≤ 85070591730234615856620279821087277056) :
    Calls Try.prog 80 #[Wv v] w fun e w' => e = .returned (.tuple #[.int .i64 (rootN v.toNat : Nat), .bool true]) ∧ Below w.heap.size w w' := by
  have t1 : ¬ wh v < 0 := fun x => by have := (wh_neg v).1 x; omega
  have t2 := cmp_lo v h
  have hn : Lt126 v.toNat := ⟨by omega⟩
  have HH := Lib.hid (show wh v = (v.toNat / 18446744073709551616 : Nat) by unfold wh; omega)
  have HL := Lib.hid (show wl v = (v.toNat % 18446744073709551616 : Nat) by unfold wl; omega)
  have HI := isq_lt v.toNat (by omega)
  have HD := Lib.hid ((low_diff v v.toNat (by omega)).resolve_right (by omega))
  have HR := Lib.hid (show rootN v.toNat = isq v.toNat + if isq v.toNat < v.toNat - isq v.toNat * isq v.toNat then 1 else 0 from rfl)
  have H1 := Lib.hid HI.1
  have H2 := Lib.hid HI.2
  have r1 : (isq v.toNat : Int) ≤ 9223372036854775807 := by have := HI.1; omega
  clear h HI
  generalize rootN v.toNat = RN at *
  generalize hN : v.toNat = n at *
  clear hN
  go_enter Try.func80, Try.ntmps80
  go_wp2_with fail
  generalize hW : World.alloc w _ = W
  have e0 : W.heap[w.heap.size]? = some (.cells #[.int .i64 (wh v), .int .u64 (wl v)] 24 (0, 0)) := by subst hW; exact heap_alloc_new w _
  have hB : Below w.heap.size w W := by subst hW; exact (Below.refl _ _).alloc (Nat.le_refl _) _
  have hw : w.heap.size < W.heap.size := by subst hW; simp
  clear hW
  refine (wcmp_at v _ _ _ top_val).mono ?_
  rintro e w1 ⟨rfl, hb⟩
  have e1 := (hb.block _ hw).trans e0
  have hB1 := hB.trans (hb.mono (Nat.le_of_lt hw))
  have hw1 := Nat.lt_of_lt_of_le hw hb.size
  clear hb hB hw e0
  have a0 : w1.cell? ⟨w.heap.size, 0, none⟩ = some (.int .i64 (wh v)) := by rw [cell_of_row w1 _ _ _ _ _ e1]; rfl
  have a1 : w1.cell? ⟨w.heap.size, 1, none⟩ = some (.int .u64 (wl v)) := by rw [cell_of_row w1 _ _ _ _ _ e1]; rfl
  have E1 := Lib.hid e1
  clear e1
  go_wp2_with fail
  refine (floor_any (wh v) (wl v) n _ hn HH.out HL.out).mono ?_
  rintro e w2 ⟨rfl, hb⟩
  have e2 := (hb.block _ hw1).trans E1.out
  have hB2 := hB1.trans (hb.mono (Nat.le_of_lt hw1))
  clear hb hB1 hw1 a0 a1 E1
  have a0 : w2.cell? ⟨w.heap.size, 0, none⟩ = some (.int .i64 (wh v)) := by rw [cell_of_row w2 _ _ _ _ _ e2]; rfl
  have a1 : w2.cell? ⟨w.heap.size, 1, none⟩ = some (.int .u64 (wl v)) := by rw [cell_of_row w2 _ _ _ _ _ e2]; rfl
  clear e2 hn
  generalize hK : isq n = k at *
  have k0 : (0 : Int) ≤ k := by omega
  by_cases hd : k < n - k * k
  · have hd' : (k : Int) < IntKind.u64.wrap (wl v - IntKind.u64.wrap ((k : Int) * k)) := by rw [HD.out]; omega
    have r3 : (k : Int) + 1 ≤ 9223372036854775807 := by have := H2.out hd; omega
    have HE := Lib.hid (show (k : Int) + 1 = RN by rw [HR.out, if_pos hd]; omega)
    clear hd hK H1 H2 HR HH HL HD
    go_wp2_with fail
    go_ret2
    exact ⟨tupleb HE.out rfl, hB2⟩
  · have hd' : ¬ (k : Int) < IntKind.u64.wrap (wl v - IntKind.u64.wrap ((k : Int) * k)) := by rw [HD.out]; omega
    have HE := Lib.hid (show (k : Int) = RN by rw [HR.out, if_neg hd]; omega)
    clear hd hK H1 H2 HR HH HL HD
    go_wp2_with fail
    go_ret2
    exact ⟨tupleb HE.out rfl, hB2⟩
end Go.Proofs.Ytdleeeahonfnkaa

/- FxN -/
namespace Go.Proofs.Ytdleeeahonfnkaa
open Go.RowKit

def satv (a : Int) : Int := if a < -1152921504606846976 then -1152921504606846976 else if 1152921504606846976 < a then 1152921504606846976 else a
def sath (a : Int) : Bool := decide (a < -1152921504606846976) || decide (1152921504606846976 < a)
theorem satv_lo (a : Int) : -1152921504606846976 ≤ satv a := by unfold satv; split <;> (try split) <;> omega
theorem satv_hi (a : Int) : satv a ≤ 1152921504606846976 := by unfold satv; split <;> (try split) <;> omega
theorem satv_in {a : Int} (h1 : -1152921504606846976 ≤ a) (h2 : a ≤ 1152921504606846976) : satv a = a ∧ sath a = false := by
  unfold satv sath
  rw [if_neg (by omega), if_neg (by omega), decide_eq_false (by omega), decide_eq_false (by omega)]
  exact ⟨rfl, rfl⟩
theorem satv_under {a : Int} (h : a < -1152921504606846976) : satv a = -1152921504606846976 ∧ sath a = true := by
  unfold satv sath
  rw [if_pos h, decide_eq_true h]
  exact ⟨rfl, rfl⟩
theorem satv_over {a : Int} (h : 1152921504606846976 < a) : satv a = 1152921504606846976 ∧ sath a = true := by
  unfold satv sath
  rw [if_neg (by omega), if_pos h, decide_eq_true h]
  exact ⟨rfl, Bool.or_true _⟩
theorem satv_neg (a : Int) : satv (-a) = -satv a := by
  unfold satv
  repeat split
  all_goals omega
theorem satv_mono {a b : Int} (h : a ≤ b) : satv a ≤ satv b := by
  unfold satv
  repeat split
  all_goals omega
def clampv (a lo hi : Int) : Int := if hi < lo then lo else if a < lo then lo else if hi < a then hi else a
def clamph (a lo hi : Int) : Bool := decide (hi < lo) || decide (a < lo) || decide (hi < a)
theorem clamp_sat (a : Int) : clampv a (-1152921504606846976) 1152921504606846976 = satv a ∧ clamph a (-1152921504606846976) 1152921504606846976 = sath a := by
  unfold clampv clamph satv sath
  constructor
  · rw [if_neg (by omega)]
  · rw [decide_eq_false (by omega : ¬ (1152921504606846976 : Int) < -1152921504606846976)]; rfl

/-- v divided by 2^s, rounded; v divided by d, rounded. -/
def rnd (v : Int) (s : Nat) : Int := withSign (decide (v < 0)) (rq v.natAbs s)
/-- The bound on v's side of 0. -/
def sideOf (v : Int) : Int := cmpI v 0 * 1152921504606846976
theorem side_neg {v : Int} (h : v < 0) : sideOf v = -1152921504606846976 := by unfold sideOf cmpI; rw [if_neg (by omega), if_pos h]; omega
theorem side_pos {v : Int} (h : 0 < v) : sideOf v = 1152921504606846976 := by unfold sideOf cmpI; rw [if_neg (by omega), if_neg (by omega)]; omega
theorem side_zero : sideOf 0 = 0 := rfl
theorem side_bd (v : Int) : -1152921504606846976 ≤ sideOf v ∧ sideOf v ≤ 1152921504606846976 := by
  rcases Int.lt_trichotomy v 0 with h | h | h
  · rw [side_neg h]; omega
  · subst h; rw [side_zero]; omega
  · rw [side_pos h]; omega
theorem rq_zero (s : Nat) : rq 0 s = 0 := by
  unfold rq halfOf
  split
  · rename_i h; subst h; rfl
  · rw [Nat.zero_add]
    exact Nat.div_eq_of_lt (Nat.pow_lt_pow_right (by omega) (by omega))
theorem sok_iff (z : Int) : sok z = true ↔ -9223372036854775808 ≤ z ∧ z ≤ 9223372036854775807 := by unfold sok; simp
theorem round_far {v : Int} {s : Nat} (h : sok (rnd v s) = false) : satv (rnd v s) = sideOf v ∧ sath (rnd v s) = true := by
  have h1 : ¬ (-9223372036854775808 ≤ rnd v s ∧ rnd v s ≤ 9223372036854775807) := fun h2 => by rw [(sok_iff _).2 h2] at h; cases h
  rcases Int.lt_trichotomy v 0 with hv | hv | hv
  · have e : rnd v s = -(rq v.natAbs s : Nat) := by unfold rnd withSign; rw [decide_eq_true hv]; rfl
    rw [side_neg hv]
    exact satv_under (by omega)
  · subst hv
    have e : rnd 0 s = 0 := by unfold rnd withSign; rw [show (0 : Int).natAbs = 0 from rfl, rq_zero]; rfl
    rw [e] at h1; omega
  · have e : rnd v s = (rq v.natAbs s : Nat) := by unfold rnd withSign; rw [decide_eq_false (by omega)]; rfl
    rw [side_pos hv]
    exact satv_over (by omega)
theorem divZ_sign (v d : Int) : divZ v d = withSign (decide (v < 0) != decide (d < 0)) (dq v.natAbs d.natAbs) := by unfold divZ; rw [xor_sign]
theorem dq_zero (d : Nat) (h : 0 < d) : dq 0 d = 0 := by
  unfold dq
  simp
  try omega
theorem div_far {v d : Int} (d0 : d ≠ 0) (h : sok (divZ v d) = false) : satv (divZ v d) = (if d < 0 then -sideOf v else sideOf v) ∧ sath (divZ v d) = true := by
  have h1 : ¬ (-9223372036854775808 ≤ divZ v d ∧ divZ v d ≤ 9223372036854775807) := fun h2 => by rw [(sok_iff _).2 h2] at h; cases h
  rw [divZ_sign] at *
  unfold withSign at *
  rcases Int.lt_trichotomy v 0 with hv | hv | hv
  · rw [side_neg hv]
    by_cases hd : d < 0
    · rw [decide_eq_true hv, decide_eq_true hd] at *
      simp only [bne_self_eq_false, Bool.false_eq_true, if_false, if_pos hd] at *
      exact satv_over (by omega)
    · rw [decide_eq_true hv, decide_eq_false hd] at *
      simp only [show (true != false) = true from rfl, if_true, if_neg hd] at *
      exact satv_under (by omega)
  · subst hv
    have : dq (0 : Int).natAbs d.natAbs = 0 := dq_zero _ (by omega)
    rw [this] at h1
    exfalso
    apply h1
    split <;> omega
  · rw [side_pos hv]
    by_cases hd : d < 0
    · rw [decide_eq_false (by omega : ¬ v < 0), decide_eq_true hd] at *
      simp only [show (false != true) = true from rfl, if_true, if_pos hd] at *
      exact satv_under (by omega)
    · rw [decide_eq_false (by omega : ¬ v < 0), decide_eq_false hd] at *
      simp only [bne_self_eq_false, Bool.false_eq_true, if_false, if_neg hd] at *
      exact satv_over (by omega)
end Go.Proofs.Ytdleeeahonfnkaa
