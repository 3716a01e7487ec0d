/- The document's own numbers of 128 bits: the root. -/
import Derived.Test.YtdleeeahonfnkaaQJ
import Derived.Deep.DeepCutAuto
namespace Go.Proofs.Ytdleeeahonfnkaa
open Go.RowKit

namespace Q2
theorem isq_ge {n x : Nat} : x * x ≤ n ↔ x ≤ isq n := by
  obtain ⟨h1, h2⟩ := isq_spec n
  constructor
  · intro h
    rcases Nat.lt_or_ge (isq n) x with k | k
    · have := Nat.mul_le_mul (show isq n + 1 ≤ x by omega) (show isq n + 1 ≤ x by omega)
      omega
    · exact k
  · intro h
    exact Nat.le_trans (Nat.mul_le_mul h h) h1
theorem bit_step (R i : Nat) : R / 2 ^ i * 2 ^ i = R / 2 ^ (i + 1) * 2 ^ (i + 1) + (if R / 2 ^ (i + 1) * 2 ^ (i + 1) + 2 ^ i ≤ R then 2 ^ i else 0) := by
  have hP : 0 < 2 ^ i := Nat.two_pow_pos i
  have e : 2 ^ (i + 1) = 2 * 2 ^ i := by rw [Nat.pow_succ]; omega
  have h1 := Nat.div_add_mod R (2 ^ i)
  have h2 := Nat.mod_lt R hP
  have e2 : R / 2 ^ (i + 1) = R / 2 ^ i / 2 := by rw [Nat.pow_succ, Nat.div_div_eq_div_mul]
  rw [e2, e]
  generalize R / 2 ^ i = Q at *
  generalize R % 2 ^ i = m at *
  generalize 2 ^ i = P at *
  have h3 : Q / 2 * (2 * P) = (2 * (Q / 2)) * P := by rw [Nat.mul_comm 2 P, ← Nat.mul_assoc, Nat.mul_comm 2, Nat.mul_assoc, Nat.mul_comm P 2, ← Nat.mul_assoc]
  rw [h3]
  rcases Nat.mod_two_eq_zero_or_one Q with k | k
  · have hq : 2 * (Q / 2) = Q := by omega
    rw [hq, if_neg (by rw [Nat.mul_comm Q P]; omega)]
    omega
  · have hq : Q = 2 * (Q / 2) + 1 := by omega
    have h4 : Q * P = 2 * (Q / 2) * P + P := by rw [show Q * P = (2 * (Q / 2) + 1) * P by rw [← hq], Nat.add_mul, Nat.one_mul]
    rw [if_pos (by rw [← h4, Nat.mul_comm Q P]; omega)]
    exact h4
end Q2
/-- The rows of 'root'. -/
structure R2 (w wr : World) (n : Nat) : Prop where
  e0 : wr.heap[w.heap.size]? = some (.cells #[.int .u64 (wh n), .int .u64 (wl n), .bool false] 127 (0, 0))
  e1 : wr.heap[w.heap.size + 1]? = some (.cells #[.int .u64 0, .int .u64 0, .bool false] 127 (0, 0))
  below : Below w.heap.size w wr
  big : w.heap.size + 2 ≤ wr.heap.size
structure R2c (w wr : World) (n : Nat) : Prop where
  a0 : wr.cell? ⟨w.heap.size, 0, none⟩ = some (.int .u64 (wh n))
  a1 : wr.cell? ⟨w.heap.size, 1, none⟩ = some (.int .u64 (wl n))
  a2 : wr.cell? ⟨w.heap.size, 2, none⟩ = some (.bool false)
  d0 : wr.cell? ⟨w.heap.size + 1, 0, none⟩ = some (.int .u64 0)
  d1 : wr.cell? ⟨w.heap.size + 1, 1, none⟩ = some (.int .u64 0)
  d2 : wr.cell? ⟨w.heap.size + 1, 2, none⟩ = some (.bool false)
  gd : ∀ o, wr.frozen? ⟨w.heap.size + 1, o, none⟩ = false
theorem R2.cells {w wr : World} {n : Nat} (h : R2 w wr n) : R2c w wr n := by
  refine ⟨?_, ?_, ?_, ?_, ?_, ?_, fun o => by simp [World.frozen?, h.e1]⟩
  · rw [cell_of_row wr _ _ _ _ _ h.e0]; rfl
  · rw [cell_of_row wr _ _ _ _ _ h.e0]; rfl
  · rw [cell_of_row wr _ _ _ _ _ h.e0]; rfl
  · rw [cell_of_row wr _ _ _ _ _ h.e1]; rfl
  · rw [cell_of_row wr _ _ _ _ _ h.e1]; rfl
  · rw [cell_of_row wr _ _ _ _ _ h.e1]; rfl
theorem R2.call {w wr w1 : World} {n : Nat} (h : R2 w wr n) (hb : Below wr.heap.size wr w1) : R2 w w1 n := by
  have := h.big
  exact ⟨(hb.block _ (by omega)).trans h.e0, (hb.block _ (by omega)).trans h.e1, h.below.trans (hb.mono h.below.size), Nat.le_trans h.big hb.size⟩
theorem R2.drew {w wr : World} {n : Nat} (h : R2 w wr n) : R2 w wr.drew n := ⟨h.e0, h.e1, h.below.drew, h.big⟩
theorem q_square (x z : Nat) (hz : x * x = z) (w : World) (hx : x ≤ 18446744073709551615) :
    Calls Try.prog 150 #[.int .u64 x, .int .u64 x] w fun e w' => e = .returned (.tuple #[.int .u64 (wh z), .int .u64 (wl z)]) ∧ w = w' := by
  subst hz
  rw [Int.natCast_mul]
  exact q_product x x w (by omega) (by omega) (by omega) (by omega)
set_option maxRecDepth 100000 in
set_option maxHeartbeats 8000000 in
theorem q_root (n : Nat) (w : World) (hn : n ≤ 85070591730234615865843651857942052863) :
    Calls Try.prog 148 #[Qv false n] w fun e w' => e = .returned (Qv false ((rootN n : Nat) : Int)) ∧ Below w.heap.size w w' := by
  obtain ⟨hs1, hs2⟩ := isq_spec n
  have hR : isq n ≤ 9223372036854775807 := isq_le (by omega)
  have HRt := Lib.hid (show rootN n = isq n + if isq n < n - isq n * isq n then 1 else 0 from rfl)
  have HGE := Lib.hid (fun x => Q2.isq_ge (n := n) (x := x))
  have HS1 := Lib.hid hs1
  have HS2 := Lib.hid hs2
  clear hs1 hs2
  generalize isq n = R at *
  go_enter Try.func148, Try.ntmps148
  go_wp2_with fail
  generalize hW : World.alloc (World.alloc w _) _ = W
  have hS : R2 w W n := by
    have k0 := heap_alloc_new w (.cells #[.int .u64 (wh n), .int .u64 (wl n), .bool false] 127)
    have B0 := (Below.refl w.heap.size w).alloc (Nat.le_refl _) (.cells #[.int .u64 (wh n), .int .u64 (wl n), .bool false] 127)
    have s0 : (w.alloc (.cells #[.int .u64 (wh n), .int .u64 (wl n), .bool false] 127)).heap.size = w.heap.size + 1 := by simp
    generalize World.alloc w _ = W0 at *
    have k1 := heap_alloc_new W0 (.cells #[.int .u64 0, .int .u64 0, .bool false] 127)
    have B1 := (Below.refl W0.heap.size W0).alloc (Nat.le_refl _) (.cells #[.int .u64 0, .int .u64 0, .bool false] 127)
    have s1 : (W0.alloc (.cells #[.int .u64 0, .int .u64 0, .bool false] 127)).heap.size = w.heap.size + 2 := by simp; omega
    rw [hW] at k1 B1 s1
    rw [s0] at k1
    exact ⟨(B1.block _ (by omega)).trans k0, k1, B0.trans (B1.mono (by omega)), by omega⟩
  clear hW
  go_loopw [3, 4] (fun s3 s4 wr => ∃ t : Nat, t ≤ 64 ∧ s3 = .int .u64 ((R / 2 ^ t * 2 ^ t : Nat) : Int) ∧ s4 = .int .i64 ((t : Int) - 1) ∧ R2 w wr n) (fun _ s4 _ => (intOf s4 + 1).toNat)
  case atStart =>
    exact ⟨64, by omega, by rw [show R / 2 ^ 64 = 0 from Nat.div_eq_of_lt (by omega)]; rfl, rfl, hS⟩
  case round =>
    clear hS
    obtain ⟨t, ht, rfl, rfl, hD⟩ := hrel
    by_cases h0 : t = 0
    · subst h0
      rw [show ((0 : Nat) : Int) - 1 = -1 by omega, show R / 2 ^ 0 * 2 ^ 0 = R by simp]
      have hRR : R * R ≤ n := HS1.out
      have hD2 : n - R * R ≤ 2 * R := by
        have h := HS2.out
        have e : (R + 1) * (R + 1) = R * R + 2 * R + 1 := by grind
        omega
      have HP := Lib.hid (fun w => q_square R (R * R) rfl w (by omega))
      generalize R * R = Z at *
      have HA := Lib.hid (fun w => q_add_more n Z false true rfl w (inq_nat (by omega)) (inq_nat (by omega)) (by omega))
      have hnz : ((n : Int) - Z) = ((n - Z : Nat) : Int) := by omega
      have hw0 : wh ((n : Int) - Z) = 0 := by rw [hnz]; unfold wh; omega
      have hw1 : wl ((n : Int) - Z) = ((n - Z : Nat) : Int) := by rw [hnz]; unfold wl; omega
      clear hnz
      have hs : IntKind.u64.wrap ((R : Int) + 1) = ((R + 1 : Nat) : Int) := by rw [IntKind.wrap_u64]; omega
      have hz : ¬ ((R + 1 : Nat) : Int) = 0 := by omega
      have HB := hD.below
      obtain ⟨a0, a1, a2, d0, d1, d2, gd⟩ := hD.cells
      go_wp2_with fail
      refine (HP.out _).mono ?_
      rintro e w1 ⟨rfl, rfl⟩
      go_wp2_with fail
      refine (HA.out _).mono ?_
      rintro e w1 ⟨rfl, hb⟩
      have hD := hD.call hb
      clear a0 a1 a2 d0 d1 d2 gd hb HB
      have HB := hD.below
      have hb1 : w.heap.size + 1 < w1.heap.size := by have := hD.big; omega
      have hb2 : w.heap.size + 1 ≠ w1.heap.size := by omega
      have hb3 : ¬ w1.heap.size = w.heap.size + 1 := by omega
      obtain ⟨a0, a1, a2, d0, d1, d2, gd⟩ := hD.cells
      by_cases hge : R < n - Z
      · have g1 : (R : Int) < ((n - Z : Nat) : Int) := by omega
        have HV := Lib.hid (show R + 1 = rootN n by rw [HRt.out, if_pos hge])
        go_wp2_with fail
        exact bodyPost_ret (v := .agg #[.int .u64 0, .int .u64 ((R : Int) + 1), .bool false]) (by simp [results, Try.results148, go_sem, d0, d1, d2, hb1]) rfl ⟨qv_eq (by rw [← HV.out]; unfold wh; omega) (by rw [← HV.out]; unfold wl; omega) rfl, (((HB.setCell (by simp <;> omega) _).setCell (by simp <;> omega) _).setCell (by simp <;> omega) _).alloc (by simp <;> omega) _⟩
      · have g1 : ¬ (R : Int) < ((n - Z : Nat) : Int) := by omega
        have HV := Lib.hid (show R = rootN n by rw [HRt.out, if_neg hge]; rfl)
        go_wp2_with fail
        exact bodyPost_ret (v := .agg #[.int .u64 0, .int .u64 (R : Nat), .bool false]) (by simp [results, Try.results148, go_sem, d0, d1, d2, hb1]) rfl ⟨qv_eq (by rw [← HV.out]; unfold wh; omega) (by rw [← HV.out]; unfold wl; omega) rfl, (((HB.setCell (by simp <;> omega) _).setCell (by simp <;> omega) _).setCell (by simp <;> omega) _).alloc (by simp <;> omega) _⟩
    · obtain ⟨i, rfl⟩ : ∃ i, t = i + 1 := ⟨t - 1, by omega⟩
      rw [show ((i + 1 : Nat) : Int) - 1 = (i : Int) by omega]
      have i0 : (0 : Int) ≤ i := by omega
      have hi : i < 64 := by omega
      have hp : 2 ^ i ≤ 9223372036854775808 := pow_lt i 63 (by omega)
      have hlt : 2 ^ i < 2 ^ (i + 1) := by rw [Nat.pow_succ]; have := Nat.two_pow_pos i; omega
      have hle : R / 2 ^ (i + 1) * 2 ^ (i + 1) ≤ R := Nat.div_mul_le_self _ _
      have hmod : R / 2 ^ (i + 1) * 2 ^ (i + 1) % 2 ^ (i + 1) = 0 := Nat.mul_mod_left _ _
      have hbs := Q2.bit_step R i
      have hO : bits .or .u64 ((R / 2 ^ (i + 1) * 2 ^ (i + 1) : Nat) : Int) (IntKind.u64.wrap (2 ^ i)) = ((R / 2 ^ (i + 1) * 2 ^ (i + 1) + 2 ^ i : Nat) : Int) := by
        rw [show IntKind.u64.wrap (2 ^ i) = ((2 ^ i : Nat) : Int) by rw [pow_int, IntKind.wrap_u64]; omega]
        exact or_parts _ _ (i + 1) (by omega) hlt (by omega) hmod
      clear hmod hlt
      have hXb : R / 2 ^ (i + 1) * 2 ^ (i + 1) + 2 ^ i ≤ 18446744073709551615 := by
        clear hO hbs
        generalize R / 2 ^ (i + 1) * 2 ^ (i + 1) = r at *
        omega
      generalize hX : R / 2 ^ (i + 1) * 2 ^ (i + 1) + 2 ^ i = X at *
      have HX := Lib.hid hX
      clear hX hp hle
      generalize R / 2 ^ (i + 1) * 2 ^ (i + 1) = r at *
      have HBS := Lib.hid hbs
      clear hbs
      have HP := Lib.hid (fun w => q_square X (X * X) rfl w hXb)
      have HL := Lib.hid (fun w => q_less n (X * X : Nat) false false w)
      have HXX := Lib.hid (Iff.trans (show ¬ (n : Int) < (X * X : Nat) ↔ X * X ≤ n by omega) (HGE.out X))
      obtain ⟨a0, a1, a2, d0, d1, d2, gd⟩ := hD.cells
      go_wp2_with fail
      refine (HP.out _).mono ?_
      rintro e w1 ⟨rfl, rfl⟩
      go_wp2_with fail
      refine (HL.out _).mono ?_
      rintro e w1 ⟨rfl, hb⟩
      have hD := hD.call hb
      clear a0 a1 a2 d0 d1 d2 gd hb
      by_cases hge : (n : Int) < (X * X : Nat)
      · rw [decide_eq_true hge]
        have HN := Lib.hid (show ¬ X ≤ R from fun h => Int.not_lt.2 (HXX.out.2 h) hge)
        clear hge HXX
        go_wp2_with fail
        refine ⟨⟨i, by omega, ?_, rfl, hD⟩, ?_⟩
        · rw [HBS.out, if_neg HN.out]; rfl
        · show (((i : Int) - 1) + 1).toNat < ((i : Int) + 1).toNat
          omega
      · rw [decide_eq_false hge]
        have HN := Lib.hid (show X ≤ R from HXX.out.1 (Int.not_lt.1 hge))
        clear hge HXX
        go_wp2_with fail
        refine ⟨⟨i, by omega, ?_, rfl, hD⟩, ?_⟩
        · rw [HBS.out, if_pos HN.out, HX.out]
        · show (((i : Int) - 1) + 1).toNat < ((i : Int) + 1).toNat
          omega
end Go.Proofs.Ytdleeeahonfnkaa
