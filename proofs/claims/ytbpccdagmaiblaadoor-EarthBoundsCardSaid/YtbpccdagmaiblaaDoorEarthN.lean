/- The length of a ten-millionth of a degree: numbers alone. -/
import Derived.Test.YtbpccdagmaiblaaDoorSE
import Derived.Test.YtbpccdagmaiblaaDoorTA
namespace Go.Proofs.YtbpccdagmaiblaaDoor.Tr
open Go SX
theorem divz_in {v d B : Int} (hd : 1 ≤ d) (h1 : -(B * d) ≤ v) (h2 : v ≤ B * d) : -B - 1 ≤ divZ v d ∧ divZ v d ≤ B + 1 := by
  have k := divZ_near (v := v) hd
  generalize divZ v d = q at *
  constructor
  · refine Int.not_lt.1 fun hc => ?_
    have k1 := Int.mul_le_mul_of_nonneg_left (show q ≤ -B - 2 by omega) (show 0 ≤ d by omega)
    have e : d * (-B - 2) = -(B * d) - 2 * d := by grind
    omega
  · refine Int.not_lt.1 fun hc => ?_
    have k1 := Int.mul_le_mul_of_nonneg_left (show B + 2 ≤ q by omega) (show 0 ≤ d by omega)
    have e : d * (B + 2) = B * d + 2 * d := by grind
    omega
/-- A quotient, rounded. -/
theorem quot_nr {v d B : Int} (hd : 1 ≤ d) (hB : B ≤ 1152921504606846975) (h1 : -(B * d) ≤ v) (h2 : v ≤ B * d) : -d ≤ 2 * (d * divv v d - v) ∧ 2 * (d * divv v d - v) ≤ d := by
  have hi := divz_in hd h1 h2
  have k := divZ_near (v := v) hd
  unfold divv
  rw [if_neg (by omega), satv_id (by unfold mx; omega) (by unfold mx; omega)]
  exact k
theorem U4q {a d B : Int} (a1 : -1152921504606846976 ≤ a) (a2 : a ≤ 1152921504606846976) (hd : 1 ≤ d) (d2 : d ≤ 1152921504606846976) (hB : B ≤ 1152921504606846975) (h1 : -(B * d) ≤ a * 1073741824) (h2 : a * 1073741824 ≤ B * d) :
    ∃ z, U 4 [a, d, 30] = z ∧ -d ≤ 2 * (d * z - a * 1073741824) ∧ 2 * (d * z - a * 1073741824) ≤ d := by
  refine ⟨_, rfl, ?_⟩
  show _ ≤ 2 * (d * divv (satv a * 2 ^ (30 : Int).toNat) (satv d) - _) ∧ 2 * (d * divv (satv a * 2 ^ (30 : Int).toNat) (satv d) - _) ≤ _
  have e' : (2 : Int) ^ (30 : Int).toNat = 1073741824 := by decide
  rw [e', satv_id (a := a) (by unfold mx; omega) (by unfold mx; omega), satv_id (a := d) (by unfold mx; omega) (by unfold mx; omega)]
  exact quot_nr hd hB h1 h2
theorem U6q {a b d B : Int} (a1 : -1152921504606846976 ≤ a) (a2 : a ≤ 1152921504606846976) (b1 : -1152921504606846976 ≤ b) (b2 : b ≤ 1152921504606846976) (hd : 1 ≤ d) (d2 : d ≤ 1152921504606846976) (hB : B ≤ 1152921504606846975) (h1 : -(B * d) ≤ a * b) (h2 : a * b ≤ B * d) :
    ∃ z, U 6 [a, b, d] = z ∧ -d ≤ 2 * (d * z - a * b) ∧ 2 * (d * z - a * b) ≤ d := by
  refine ⟨_, rfl, ?_⟩
  show _ ≤ 2 * (d * divv (satv a * satv b) (satv d) - _) ∧ 2 * (d * divv (satv a * satv b) (satv d) - _) ≤ _
  rw [satv_id (a := a) (by unfold mx; omega) (by unfold mx; omega), satv_id (a := b) (by unfold mx; omega) (by unfold mx; omega), satv_id (a := d) (by unfold mx; omega) (by unfold mx; omega)]
  exact quot_nr hd hB h1 h2
theorem U2q {a b : Int} (s : Nat) (a1 : -1152921504606846976 ≤ a) (a2 : a ≤ 1152921504606846976) (b1 : -1152921504606846976 ≤ b) (b2 : b ≤ 1152921504606846976) (h1 : -(1152921504606846975 * ((2 ^ s : Nat) : Int)) ≤ a * b) (h2 : a * b ≤ 1152921504606846975 * ((2 ^ s : Nat) : Int)) :
    ∃ z, U 2 [a, b, (s : Int)] = z ∧ -((2 ^ s : Nat) : Int) ≤ 2 * (((2 ^ s : Nat) : Int) * z - a * b) ∧ 2 * (((2 ^ s : Nat) : Int) * z - a * b) ≤ ((2 ^ s : Nat) : Int) := by
  refine ⟨_, rfl, ?_⟩
  show _ ≤ 2 * (((2 ^ s : Nat) : Int) * satv (rnd (satv a * satv b) (s : Int).toNat) - _) ∧ 2 * (((2 ^ s : Nat) : Int) * satv (rnd (satv a * satv b) (s : Int).toNat) - _) ≤ _
  rw [satv_id (a := a) (by unfold mx; omega) (by unfold mx; omega), satv_id (a := b) (by unfold mx; omega) (by unfold mx; omega), Int.toNat_natCast]
  have hr := rnd_nr (a * b) s
  have hp : (1 : Int) ≤ ((2 ^ s : Nat) : Int) := by
    have : 0 < 2 ^ s := Nat.pow_pos (by omega)
    omega
  generalize rnd (a * b) s = y at *
  generalize ((2 ^ s : Nat) : Int) = p at *
  have y1 : y ≤ 1152921504606846976 := by
    refine Int.not_lt.1 fun hc => ?_
    have k := Int.mul_le_mul_of_nonneg_left (show 1152921504606846977 ≤ y by omega) (show 0 ≤ p by omega)
    omega
  have y2 : -1152921504606846976 ≤ y := by
    refine Int.not_lt.1 fun hc => ?_
    have k := Int.mul_le_mul_of_nonneg_left (show y ≤ -1152921504606846977 by omega) (show 0 ≤ p by omega)
    omega
  rw [satv_id (by unfold mx; omega) (by unfold mx; omega)]
  omega
theorem rootq {v c : Int} (v1 : 1 ≤ v) (v2 : v ≤ 1073741830) (hc : c = U 30 [v]) : (1 ≤ c ∧ c ≤ 1073741829) ∧ c * c - c < v * 1073741824 ∧ v * 1073741824 ≤ c * c + c := by
  have e : c = ((rootN (v.natAbs * 1073741824) : Nat) : Int) := by
    rw [hc]
    show sqwF v = _
    rw [sqwF_eq]
    unfold sqw
    rw [satv_id (by unfold mx; omega) (by unfold mx; omega), if_neg (by omega)]
  have k := sp_root (v.natAbs * 1073741824)
  rw [← e] at k
  have e2 : ((v.natAbs * 1073741824 : Nat) : Int) = v * 1073741824 := by omega
  rw [e2] at k
  obtain ⟨k1, k2, k3⟩ := k
  have c1 : 1 ≤ c := by
    refine Int.not_lt.1 fun h => ?_
    have z : c = 0 := by omega
    rw [z] at k2; omega
  have k3 : c * c - c < v * 1073741824 := by
    rcases k3 with h | h
    · omega
    · exact h
  refine ⟨⟨c1, ?_⟩, k3, k2⟩
  refine Int.not_lt.1 fun h => ?_
  have m := Int.mul_le_mul (show 1073741830 ≤ c by omega) (show 1073741829 ≤ c - 1 by omega) (by decide) (by omega)
  have e3 : c * (c - 1) = c * c - c := by grind
  omega
/-- What New reckons: s the sine, w, r, the scale to the north. -/
theorem scale_n {s m0 m1 w r x n z : Int} (s1 : -1073741824 ≤ s) (s2 : s ≤ 1073741824) (h0 : m0 = U 2 [s, s, 30]) (h1 : m1 = U 2 [m0, 7188036, 30]) (hw : w = -1 * m1 + 1073741824) (hr : r = U 30 [w])
    (hx : x = U 2 [w, r, 30]) (hn : n = U 4 [6487489870, x, 30]) (hz : z = U 6 [n, 3373259426, 1800000000]) : (1070100000 ≤ r ∧ r ≤ 1073741829) ∧ (12157000000 ≤ z ∧ z ≤ 12290000000) := by
  have e30 : ((2 ^ 30 : Nat) : Int) = 1073741824 := by decide
  have b := bil (u := s) (d := s) (B := 1073741824) (S := 1073741824) s1 s2 s1 s2
  have nn := Nm.sqnn s
  obtain ⟨z0, k0, i0, j0⟩ := U2q (a := s) (b := s) 30 (by omega) (by omega) (by omega) (by omega) (by rw [e30]; omega) (by rw [e30]; omega)
  obtain rfl : m0 = z0 := h0.trans k0
  rw [e30] at i0 j0
  have m01 : 0 ≤ m0 ∧ m0 ≤ 1073741824 := by omega
  obtain ⟨z1, k1, i1, j1⟩ := U2q (a := m0) (b := 7188036) 30 (by omega) (by omega) (by omega) (by omega) (by rw [e30]; omega) (by rw [e30]; omega)
  obtain rfl : m1 = z1 := h1.trans k1
  rw [e30] at i1 j1
  have w1 : 1066553788 ≤ w ∧ w ≤ 1073741824 := by omega
  obtain ⟨⟨r1, r2⟩, r3, r4⟩ := rootq (v := w) (c := r) (by omega) (by omega) hr
  have r5 : 1070100000 ≤ r := by
    refine Int.not_lt.1 fun hc => ?_
    have k := Int.mul_le_mul (show r ≤ 1070099999 by omega) (show r + 1 ≤ 1070100000 by omega) (by omega) (by decide)
    have e3 : r * (r + 1) = r * r + r := by grind
    omega
  refine ⟨⟨r5, r2⟩, ?_⟩
  have lo := Int.mul_le_mul w1.1 r5 (by decide) (by omega)
  have hi := Int.mul_le_mul w1.2 r2 (by omega) (by decide)
  obtain ⟨z2, k2, i2, j2⟩ := U2q (a := w) (b := r) 30 (by omega) (by omega) (by omega) (by omega) (by rw [e30]; omega) (by rw [e30]; omega)
  obtain rfl : x = z2 := hx.trans k2
  rw [e30] at i2 j2
  have x1 : 1062900000 ≤ x ∧ x ≤ 1073741830 := by omega
  clear lo hi i2 j2 i0 i1 j0 j1 nn b r3 r4
  obtain ⟨z3, k3, i3, j3⟩ := U4q (a := 6487489870) (d := x) (B := 7000000000) (by omega) (by omega) (by omega) (by omega) (by decide) (by omega) (by omega)
  obtain rfl : n = z3 := hn.trans k3
  have n1 : 6487489000 ≤ n ∧ n ≤ 6553800000 := by
    constructor
    · refine Int.not_lt.1 fun hc => ?_
      have k := Int.mul_le_mul_of_nonneg_left (show n ≤ 6487488999 by omega) (show 0 ≤ x by omega)
      omega
    · refine Int.not_lt.1 fun hc => ?_
      have k := Int.mul_le_mul_of_nonneg_left (show 6553800001 ≤ n by omega) (show 0 ≤ x by omega)
      omega
  obtain ⟨z4, k4, i4, j4⟩ := U6q (a := n) (b := 3373259426) (d := 1800000000) (B := 13000000000) (by omega) (by omega) (by omega) (by omega) (by omega) (by omega) (by decide) (by omega) (by omega)
  obtain rfl : z = z4 := hz.trans k4
  omega
/-- The scale to the east: k the cosine. -/
theorem scale_e {k r e m z : Int} (k1 : 90000000 < k) (k2 : k ≤ 1073741824) (r1 : 1070100000 ≤ r) (r2 : r ≤ 1073741829) (he : e = U 4 [6531212288, r, 30]) (hm : m = U 2 [k, e, 30]) (hz : z = U 6 [m, 3373259426, 1800000000]) :
    1000000000 ≤ z ∧ z ≤ 12400000000 := by
  have e30 : ((2 ^ 30 : Nat) : Int) = 1073741824 := by decide
  obtain ⟨z3, k3, i3, j3⟩ := U4q (a := 6531212288) (d := r) (B := 7000000000) (by omega) (by omega) (by omega) (by omega) (by decide) (by omega) (by omega)
  obtain rfl : e = z3 := he.trans k3
  have n1 : 6531212000 ≤ e ∧ e ≤ 6553800000 := by
    constructor
    · refine Int.not_lt.1 fun hc => ?_
      have k := Int.mul_le_mul_of_nonneg_left (show e ≤ 6531211999 by omega) (show 0 ≤ r by omega)
      omega
    · refine Int.not_lt.1 fun hc => ?_
      have k := Int.mul_le_mul_of_nonneg_left (show 6553800001 ≤ e by omega) (show 0 ≤ r by omega)
      omega
  have lo := Int.mul_le_mul (show 90000000 ≤ k by omega) n1.1 (by decide) (by omega)
  have hi := Int.mul_le_mul k2 n1.2 (by omega) (by decide)
  obtain ⟨z2, k5, i2, j2⟩ := U2q (a := k) (b := e) 30 (by omega) (by omega) (by omega) (by omega) (by rw [e30]; omega) (by rw [e30]; omega)
  obtain rfl : m = z2 := hm.trans k5
  rw [e30] at i2 j2
  have m1 : 540000000 ≤ m ∧ m ≤ 6553900000 := by omega
  obtain ⟨z4, k4, i4, j4⟩ := U6q (a := m) (b := 3373259426) (d := 1800000000) (B := 13000000000) (by omega) (by omega) (by omega) (by omega) (by omega) (by omega) (by decide) (by omega) (by omega)
  obtain rfl : z = z4 := hz.trans k4
  omega
/-- The cosine of an angle up to 80 degrees. -/
theorem cos80 {x : Int} (x1 : -1499226500 ≤ x) (x2 : x ≤ 1499226500) : 90000000 < sinF (1686629713 + x) ∧ sinF (1686629713 + x) ≤ 1073741824 := by
  refine ⟨?_, (sinF_bd _).2⟩
  have c := cosF_in (w := x) (by omega) (by omega)
  rcases Int.le_total 0 x with h | h
  · have q := sQ (x := -x) (by omega) (by omega)
    rw [cT_neg] at q
    have j := jord (z := -x + 1686629713) (by omega) (by omega)
    omega
  · have q := sQ (x := x) (by omega) (by omega)
    have j := jord (z := x + 1686629713) (by omega) (by omega)
    omega
end Go.Proofs.YtbpccdagmaiblaaDoor.Tr
