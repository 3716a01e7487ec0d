/- math/bits.Div64: the quotient and the rest of 128 bits by 64. -/
import Derived.Test.YtahedampmjfoeaaBits
import Derived.Test.YtahedampmjfoeaaDivN
import Derived.Test.YtahedampmjfoeaaWideF
import Derived.Deep.DeepCutAuto
import Derived.Deep.CutBlock
namespace Go.Proofs.Ytahedampmjfoeaa
open Go.RowKit

theorem div64_low (lo y : Int) (w : World) (l0 : 0 ≤ lo) (l1 : lo < 18446744073709551616) (y0 : 0 < y) :
    Calls Try.prog 73 #[.int .u64 0, .int .u64 lo, .int .u64 y] w fun e w' => e = .returned (.tuple #[.int .u64 (lo / y), .int .u64 (lo % y)]) ∧ Below w.heap.size w w' := by
  have t1 : (y == 0) = false := by rw [beq_eq_false_iff_ne]; omega
  have t2 : ¬ y ≤ 0 := by omega
  have t3 : ¬ y = 0 := by omega
  go_enter Try.func73, Try.ntmps73
  go_wp2_with fail
  go_quiet (fail)
  go_wp2_with fail
  go_ret2
  exact ⟨rfl, below_drewN (Below.refl _ _) _⟩

/-- What the divisor's leading zeros are good for. -/
theorem norm_facts (hi lo y : Nat) (h0 : 0 < hi) (l1 : lo < 18446744073709551616) (y0 : hi < y) (y1 : y < 18446744073709551616) :
    ∃ s Y U L a b : Nat, (64 - (Lib.bitLen y : Int)) = s ∧ s ≤ 63 ∧ IntKind.u64.wrap ((y : Int) * 2 ^ s) = Y ∧ bits .or .u64 (IntKind.u64.wrap ((hi : Int) * 2 ^ s)) ((lo : Int) / 2 ^ (64 - s)) = U ∧ IntKind.u64.wrap ((lo : Int) * 2 ^ s) = L ∧
      Y / 4294967296 = a ∧ Y % 4294967296 = b ∧ y * 2 ^ s = Y ∧ Y < 18446744073709551616 ∧ 0 < a ∧ U < Y ∧ L < 18446744073709551616 ∧
      (hi * 18446744073709551616 + lo) * 2 ^ s = (U * 4294967296 + L / 4294967296) * 4294967296 + L % 4294967296 := by
  have hl := Lib.bitLen_le y 64 (by omega) y1
  have hp := bitLen_pos y (by omega) y1
  obtain ⟨s, hs⟩ : ∃ s, s + Lib.bitLen y = 64 := ⟨64 - Lib.bitLen y, by omega⟩
  have hs63 : s ≤ 63 := by omega
  have hlow : 2 ^ (63 - s) ≤ y := by
    rcases Nat.lt_or_ge y (2 ^ (63 - s)) with h | h
    · have := (bitLen_iff y (63 - s) (by omega) y1).2 h
      omega
    · exact h
  have hup : y < 2 ^ (64 - s) := by
    by_cases hz : s = 0
    · subst hz; exact y1
    · exact (bitLen_iff y (64 - s) (by omega) y1).1 (by omega)
  have hP : 0 < 2 ^ s := Nat.two_pow_pos s
  have hPQ : 2 ^ s * 2 ^ (64 - s) = 18446744073709551616 := by rw [← Nat.pow_add, show s + (64 - s) = 64 by omega]
  have hPR : 2 ^ s * 2 ^ (63 - s) = 9223372036854775808 := by rw [← Nat.pow_add, show s + (63 - s) = 63 by omega]
  have hY1 : y * 2 ^ s < 18446744073709551616 := by
    have := Nat.mul_lt_mul_of_pos_right hup hP
    rw [Nat.mul_comm (2 ^ (64 - s)), hPQ] at this
    exact this
  have hY2 : 9223372036854775808 ≤ y * 2 ^ s := by
    have := Nat.mul_le_mul_right (2 ^ s) hlow
    rw [Nat.mul_comm (2 ^ (63 - s)), hPR] at this
    exact this
  have hH : (hi + 1) * 2 ^ s ≤ y * 2 ^ s := Nat.mul_le_mul_right _ y0
  rw [Nat.add_mul, Nat.one_mul] at hH
  have hlo2 : lo / 2 ^ (64 - s) < 2 ^ s := by
    refine (Nat.div_lt_iff_lt_mul (Nat.two_pow_pos _)).2 ?_
    rw [hPQ]; exact l1
  have wr : ∀ n : Nat, IntKind.u64.wrap ((n : Int) * 2 ^ s) = ((n * 2 ^ s % 18446744073709551616 : Nat) : Int) := fun n => by
    rw [IntKind.wrap_u64, pow_int, ← Int.natCast_mul]; omega
  have hHm : hi * 2 ^ s % 18446744073709551616 = hi * 2 ^ s := Nat.mod_eq_of_lt (by omega)
  have eU : bits .or .u64 (IntKind.u64.wrap ((hi : Int) * 2 ^ s)) ((lo : Int) / 2 ^ (64 - s)) = ((hi * 2 ^ s + lo / 2 ^ (64 - s) : Nat) : Int) := by
    rw [wr, hHm, div_pow_int, or_parts _ _ s (by omega) hlo2 (by omega) (Nat.mul_mod_left _ _)]
  refine ⟨s, y * 2 ^ s, hi * 2 ^ s + lo / 2 ^ (64 - s), lo * 2 ^ s % 18446744073709551616, y * 2 ^ s / 4294967296, y * 2 ^ s % 4294967296, by omega, hs63, ?_, eU, wr lo, rfl, rfl, rfl, hY1, by omega, by omega, Nat.mod_lt _ (by omega), ?_⟩
  · rw [wr, Nat.mod_eq_of_lt hY1]
  · have k1 : lo * 2 ^ s = lo / 2 ^ (64 - s) * 18446744073709551616 + lo * 2 ^ s % 18446744073709551616 := by
      have h1 := Nat.div_add_mod (lo * 2 ^ s) 18446744073709551616
      have h2 : lo * 2 ^ s / 18446744073709551616 = lo / 2 ^ (64 - s) := by
        rw [← hPQ, Nat.mul_comm lo, Nat.mul_div_mul_left _ _ hP]
      rw [h2] at h1
      omega
    have k2 : (hi * 18446744073709551616 + lo) * 2 ^ s = hi * 2 ^ s * 18446744073709551616 + lo * 2 ^ s := by rw [Nat.add_mul, Nat.mul_right_comm]
    rw [k2]
    generalize hi * 2 ^ s = X at *
    generalize lo / 2 ^ (64 - s) = Z at *
    generalize lo * 2 ^ s = V at *
    omega

theorem nat_div (a b : Nat) : ((a : Int) / (b : Int)) = ((a / b : Nat) : Int) := (Int.natCast_ediv a b).symm
theorem up_one (q : Nat) (h : 1 ≤ q) : ((q : Int) - 1) = ((q - 1 : Nat) : Int) := by omega
set_option maxHeartbeats 4000000 in
theorem div64_high (hi lo y : Nat) (w : World) (h0 : 0 < hi) (l1 : lo < 18446744073709551616) (y0 : hi < y) (y1 : y < 18446744073709551616) :
    Calls Try.prog 73 #[.int .u64 hi, .int .u64 lo, .int .u64 y] w fun e w' => e = .returned (.tuple #[.int .u64 (((hi * 18446744073709551616 + lo) / y : Nat) : Int), .int .u64 (((hi * 18446744073709551616 + lo) % y : Nat) : Int)]) ∧ Below w.heap.size w w' := by
  obtain ⟨s, Y, U, L, a, b, f1, f2, f3, f4, f5, f6, f7, f8, f9, f10, f11, f12, f13⟩ := norm_facts hi lo y h0 l1 y0 y1
  have hYab : Y = a * 4294967296 + b := by omega
  have hb : b < 4294967296 := by omega
  have ha : a < 4294967296 := by omega
  have hUab : U < a * 4294967296 + b := by omega
  have HT := Lib.hid (two_qt (hi * 18446744073709551616 + lo) y s U L a b Y f13 hYab f8 f10)
  have F3 := Lib.hid f3
  have F4 := Lib.hid f4
  have F5 := Lib.hid f5
  have F6 := Lib.hid f6
  have FYab := Lib.hid hYab
  have t1 : ((y : Int) == 0) = false := by rw [beq_eq_false_iff_ne]; omega
  have t2 : ¬ (y : Int) ≤ hi := by omega
  have t3 : ((hi : Int) == 0) = false := by rw [beq_eq_false_iff_ne]; omega
  have HL := Lib.hid (show (64 - (Lib.bitLen (y : Int).toNat : Int)) = s by rw [Int.toNat_natCast]; exact f1)
  have s2 : (0 : Int) ≤ s := by omega
  have s3 : (s : Int) ≤ 63 := by omega
  have hy0 : (0 : Int) ≤ y := by omega
  have hy1 : (y : Int) ≤ 18446744073709551615 := by omega
  have hYb : (Y : Int) < 18446744073709551616 := by omega
  have FA := Lib.hid (show ((Y : Int) / 4294967296) = (a : Int) by omega)
  have FB := Lib.hid (show bits .and .u64 (Y : Int) 4294967295 = (b : Int) by rw [and_mask _ (by omega) hYb]; omega)
  have c1 : L / 4294967296 < 4294967296 := by omega
  have c2 : L % 4294967296 < 4294967296 := by omega
  have FC := Lib.hid (show ((L : Int) / 4294967296) = ((L / 4294967296 : Nat) : Int) by omega)
  have FD := Lib.hid (show bits .and .u64 (L : Int) 4294967295 = ((L % 4294967296 : Nat) : Int) by rw [and_mask _ (by omega) (by omega)]; omega)
  clear f1 f3 f4 f5 f6 f7 f8 f13 hYab
  go_enter Try.func73, Try.ntmps73
  go_wp2_with fail
  refine (lead_any y _ hy0 hy1).mono ?_
  rintro e w' ⟨rfl, rfl⟩
  rw [HL.out]
  go_upto_region 15 with (fail)
  rw [F3.out, F4.out, F5.out, FA.out, FB.out, FC.out, FD.out]
  generalize hc : L / 4294967296 = c at *
  generalize hd : L % 4294967296 = d at *
  clear hc hd FA FB FC FD F3 F4 F5 F6 HL t1 t2 t3 f12 y1
  have a0 : (0 : Int) < a := by omega
  have a1 : (a : Int) < 4294967296 := by omega
  have a2 : ¬ (a : Int) = 0 := by omega
  have b1 : (b : Int) < 4294967296 := by omega
  have c3 : (c : Int) < 4294967296 := by omega
  have d3 : (d : Int) < 4294967296 := by omega
  have u3 : (U : Int) < 18446744073709551616 := by omega
  have hq0 := qt_first (b := b) (c := c) (by omega : 0 < a) (by omega) hUab
  have hqU : U / a * a ≤ U := Nat.div_mul_le_self U a
  have hqle : U / a ≤ U := Nat.div_le_self U a
  have hmod := Nat.div_add_mod' U a
  have hml := Nat.mod_lt U (by omega : 0 < a)
  go_upto_region 16 with (fail)
  rw [nat_div]
  generalize U / a = q0 at *
  have HMOD := Lib.hid hmod
  have p1 : (0 : Int) ≤ (q0 : Int) * a := by rw [← Int.natCast_mul]; omega
  have p2 : (q0 : Int) * a ≤ U := by rw [← Int.natCast_mul]; omega
  clear hmod
  go_upto_block 0 with (fail)
  go_cut [15] (fun x wc => wc = w ∧ x = .int .u64 (qt U a b c : Nat))
  case rest =>
    obtain ⟨rfl, rfl⟩ := hcut
    clear hqle hqU hml p1 p2 HMOD hq0
    go_upto_region 22 with (fail)
    rw [rt_wrap U a b c Y FYab.out f9 f10]
    have hRY : rt U a b c < a * 4294967296 + b := rt_lt f10
    have HQ1 := Lib.hid (qt_small (b := b) (c := c) f10 c1 hUab)
    generalize hR : rt U a b c = R at *
    have hR2 : R < 18446744073709551616 := by have := FYab.out; omega
    have u4 : (R : Int) < 18446744073709551616 := by omega
    have hq0 := qt_first (b := b) (c := d) f10 c2 hRY
    have hqU : R / a * a ≤ R := Nat.div_mul_le_self R a
    have hqle : R / a ≤ R := Nat.div_le_self R a
    have hmod := Nat.div_add_mod' R a
    have hml := Nat.mod_lt R f10
    go_upto_region 23 with (fail)
    rw [nat_div]
    generalize R / a = q0 at *
    have HMOD := Lib.hid hmod
    have p1 : (0 : Int) ≤ (q0 : Int) * a := by rw [← Int.natCast_mul]; omega
    have p2 : (q0 : Int) * a ≤ R := by rw [← Int.natCast_mul]; omega
    clear hmod
    go_upto_block 2 with (fail)
    go_cut [18] (fun x w2 => w2 = wc ∧ x = .int .u64 (qt R a b d : Nat))
    case rest =>
      obtain ⟨rfl, rfl⟩ := hcut
      have HQ2 := qt_small (b := b) (c := d) f10 c2 hRY
      have qb1 : (qt U a b c : Int) < 4294967296 := by have := HQ1.out; omega
      have qb2 : (qt R a b d : Int) < 4294967296 := by omega
      have qb3 : (0 : Int) ≤ (qt U a b c : Int) := by omega
      have qb4 : (0 : Int) ≤ (qt R a b d : Int) := by omega
      have RW := Lib.hid (rt_wrap R a b d Y FYab.out f9 f10)
      clear hq0 hqU hqle hml p1 p2 HMOD HQ2 hRY hR2 f9 f10 f11 hb ha hUab c1 c2 l1 y0 h0
      go_wp2_with fail
      rw [RW.out]
      go_ret2
      refine ⟨tuple2 ?_ ?_, Below.refl _ _⟩
      · rw [← HT.out.1]; simp
      · rw [← HT.out.2, div_pow_int]
    case first =>
      go_wp2_with fail
      go_loop [18, 16] (fun x z => ∃ q r : Nat, x = .int .u64 q ∧ z = .int .u64 r ∧ (r : Int) < 4294967296 ∧ (q : Int) < 18446744073709551616 ∧ Hid (q * a + r = R ∧ qt R a b d ≤ q)) (fun x _ => (intOf x).toNat)
      case atStart =>
        have hm := HMOD.out
        refine ⟨q0, R - q0 * a, rfl, ?_, by omega, by omega, ⟨by omega, hq0⟩⟩
        rw [show ((R - q0 * a : Nat) : Int) = (R : Int) - q0 * a by rw [← Int.natCast_mul]; omega]
      case round =>
        obtain ⟨q, r, rfl, rfl, r3, q3, HI⟩ := hrel
        have r0 : (0 : Int) ≤ r := by omega
        have q1 : (0 : Int) ≤ q := by omega
        have c0 : (0 : Int) ≤ d := by omega
        clear hqle hqU hml p1 p2 HMOD hq0
        have NF := Lib.hid (And.intro f10 (And.intro hb (And.intro c2 hRY)))
        clear f9 f10 f11 hb ha hUab c1 c2 l1 y0 h0 hRY hR2
        by_cases hA : 4294967296 ≤ q
        · have hA' : (4294967296 : Int) ≤ q := by omega
          have HS := Lib.hid (qt_step HI.out.1 NF.out.1 NF.out.2.2.1 NF.out.2.2.2 (.inl hA))
          clear hA
          by_cases hK : (4294967296 : Int) ≤ (r : Int) + a
          · go_wp2_with fail
            go_meet
            case rel =>
              refine ⟨rfl, ?_⟩
              rw [up_one q HS.out.2, qt_brk (q := q - 1) (r := r + a) (dec_mul HS.out.2 HI.out.1) NF.out.1 NF.out.2.1 NF.out.2.2.2 (by omega) HS.out.1]
          · go_wp2_with fail
            go_round
            case rel => exact ⟨q - 1, r + a, by rw [up_one q HS.out.2], by simp, by omega, by omega, dec_mul HS.out.2 HI.out.1, HS.out.1⟩
            case measure => have hq1 := HS.out.2; simp [intOf]; omega
        · have hA' : ¬ (4294967296 : Int) ≤ q := by omega
          have HA := Lib.hid hA
          clear hA
          have m0 : (0 : Int) ≤ (q : Int) * b := by rw [← Int.natCast_mul]; omega
          have m1 : (q : Int) * b < 18446744073709551616 := by
            have h1 : q * b ≤ 4294967295 * 4294967295 := Nat.mul_le_mul (by omega) (by omega)
            rw [← Int.natCast_mul]; omega
          by_cases hB : 4294967296 * (r : Int) + d < (q : Int) * b
          · have HS := Lib.hid (qt_step HI.out.1 NF.out.1 NF.out.2.2.1 NF.out.2.2.2 (.inr (by rw [← Int.natCast_mul] at hB; omega)))
            by_cases hK : (4294967296 : Int) ≤ (r : Int) + a
            · have hq1 : (1 : Int) ≤ q := by have := HS.out.2; omega
              go_wp2_with fail
              go_meet
              case rel =>
                refine ⟨rfl, ?_⟩
                rw [up_one q HS.out.2, qt_brk (q := q - 1) (r := r + a) (dec_mul HS.out.2 HI.out.1) NF.out.1 NF.out.2.1 NF.out.2.2.2 (by omega) HS.out.1]
            · have hq1 : (1 : Int) ≤ q := by have := HS.out.2; omega
              go_wp2_with fail
              go_round
              case rel => exact ⟨q - 1, r + a, by rw [up_one q HS.out.2], by simp, by omega, by omega, dec_mul HS.out.2 HI.out.1, HS.out.1⟩
              case measure => have hq1 := HS.out.2; simp [intOf]; omega
          · have HE := Lib.hid (qt_stop HI.out.1 NF.out.1 (by rw [← Int.natCast_mul] at hB; omega) HI.out.2)
            go_wp2_with fail
            go_meet
            case rel => exact ⟨rfl, by rw [← HE.out]⟩
  case first =>
    go_wp2_with fail
    go_loop [15, 16] (fun x z => ∃ q r : Nat, x = .int .u64 q ∧ z = .int .u64 r ∧ (r : Int) < 4294967296 ∧ (q : Int) < 18446744073709551616 ∧ Hid (q * a + r = U ∧ qt U a b c ≤ q)) (fun x _ => (intOf x).toNat)
    case atStart =>
      have hm := HMOD.out
      refine ⟨q0, U - q0 * a, rfl, ?_, by omega, by omega, ⟨by omega, hq0⟩⟩
      rw [show ((U - q0 * a : Nat) : Int) = (U : Int) - q0 * a by rw [← Int.natCast_mul]; omega]
    case round =>
      obtain ⟨q, r, rfl, rfl, r3, q3, HI⟩ := hrel
      have r0 : (0 : Int) ≤ r := by omega
      have q1 : (0 : Int) ≤ q := by omega
      have c0 : (0 : Int) ≤ c := by omega
      clear hqle hqU hml p1 p2 HMOD hq0
      have NF := Lib.hid (And.intro f10 (And.intro hb (And.intro c1 hUab)))
      clear f9 f10 f11 hb ha hUab c1 c2 l1 y0 h0
      by_cases hA : 4294967296 ≤ q
      · have hA' : (4294967296 : Int) ≤ q := by omega
        have HS := Lib.hid (qt_step HI.out.1 NF.out.1 NF.out.2.2.1 NF.out.2.2.2 (.inl hA))
        clear hA
        by_cases hK : (4294967296 : Int) ≤ (r : Int) + a
        · go_wp2_with fail
          go_meet
          case rel =>
            refine ⟨rfl, ?_⟩
            rw [up_one q HS.out.2, qt_brk (q := q - 1) (r := r + a) (dec_mul HS.out.2 HI.out.1) NF.out.1 NF.out.2.1 NF.out.2.2.2 (by omega) HS.out.1]
        · go_wp2_with fail
          go_round
          case rel => exact ⟨q - 1, r + a, by rw [up_one q HS.out.2], by simp, by omega, by omega, dec_mul HS.out.2 HI.out.1, HS.out.1⟩
          case measure => have hq1 := HS.out.2; simp [intOf]; omega
      · have hA' : ¬ (4294967296 : Int) ≤ q := by omega
        have HA := Lib.hid hA
        clear hA
        have m0 : (0 : Int) ≤ (q : Int) * b := by rw [← Int.natCast_mul]; omega
        have m1 : (q : Int) * b < 18446744073709551616 := by
          have h1 : q * b ≤ 4294967295 * 4294967295 := Nat.mul_le_mul (by omega) (by omega)
          rw [← Int.natCast_mul]; omega
        by_cases hB : 4294967296 * (r : Int) + c < (q : Int) * b
        · have HS := Lib.hid (qt_step HI.out.1 NF.out.1 NF.out.2.2.1 NF.out.2.2.2 (.inr (by rw [← Int.natCast_mul] at hB; omega)))
          by_cases hK : (4294967296 : Int) ≤ (r : Int) + a
          · have hq1 : (1 : Int) ≤ q := by have := HS.out.2; omega
            go_wp2_with fail
            go_meet
            case rel =>
              refine ⟨rfl, ?_⟩
              rw [up_one q HS.out.2, qt_brk (q := q - 1) (r := r + a) (dec_mul HS.out.2 HI.out.1) NF.out.1 NF.out.2.1 NF.out.2.2.2 (by omega) HS.out.1]
          · have hq1 : (1 : Int) ≤ q := by have := HS.out.2; omega
            go_wp2_with fail
            go_round
            case rel => exact ⟨q - 1, r + a, by rw [up_one q HS.out.2], by simp, by omega, by omega, dec_mul HS.out.2 HI.out.1, HS.out.1⟩
            case measure => have hq1 := HS.out.2; simp [intOf]; omega
        · have HE := Lib.hid (qt_stop HI.out.1 NF.out.1 (by rw [← Int.natCast_mul] at hB; omega) HI.out.2)
          go_wp2_with fail
          go_meet
          case rel => exact ⟨rfl, by rw [← HE.out]⟩

theorem div64_any (hi lo y : Nat) (w : World) (l1 : lo < 18446744073709551616) (y0 : hi < y) (y1 : y < 18446744073709551616) :
    Calls Try.prog 73 #[.int .u64 hi, .int .u64 lo, .int .u64 y] w fun e w' => e = .returned (.tuple #[.int .u64 (((hi * 18446744073709551616 + lo) / y : Nat) : Int), .int .u64 (((hi * 18446744073709551616 + lo) % y : Nat) : Int)]) ∧ Below w.heap.size w w' := by
  by_cases h : 0 < hi
  · exact div64_high hi lo y w h l1 y0 y1
  · obtain rfl : hi = 0 := by omega
    refine (div64_low lo y w (by omega) (by omega) (by omega)).mono fun e w' ⟨he, hb⟩ => ⟨he.trans (tuple2 ?_ ?_), hb⟩
    · rw [Nat.zero_mul, Nat.zero_add, nat_div]
    · rw [Nat.zero_mul, Nat.zero_add, Int.natCast_emod]
end Go.Proofs.Ytahedampmjfoeaa
