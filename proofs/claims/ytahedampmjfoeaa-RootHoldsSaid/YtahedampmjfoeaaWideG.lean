/- Package wide: quotients. -/
import Derived.Test.YtahedampmjfoeaaDivW
import Derived.Test.YtahedampmjfoeaaRootN
namespace Go.Proofs.Ytahedampmjfoeaa
open Go.RowKit

structure Lt64 (n : Nat) : Prop where
  out : n < 18446744073709551616
theorem div64_at (x z t : Int) (hi lo y : Nat) (w : World) (hx : x = hi) (hz : z = lo) (ht : t = y) (l1 : lo < 18446744073709551616) (y0 : hi < y) (y1 : y < 18446744073709551616) :
    Calls Try.prog 73 #[.int .u64 x, .int .u64 z, .int .u64 t] w fun e w' => e = .returned (.tuple #[.int .u64 (((hi * 18446744073709551616 + lo) / y : Nat) : Int), .int .u64 (((hi * 18446744073709551616 + lo) % y : Nat) : Int)]) ∧ Below w.heap.size w w' := by
  subst hx hz ht; exact div64_any hi lo y w l1 y0 y1
theorem inW_small (d : Int) (h1 : -9223372036854775808 ≤ d) (h2 : d ≤ 9223372036854775807) : InW d := ⟨by omega, by omega⟩
theorem xor_sign (v d : Int) : (decide (wh v < 0) != decide (d < 0)) = (decide (v < 0) != decide (d < 0)) := by rw [decide_eq_decide.2 (wh_neg v)]
def divZ (v d : Int) : Int := withSign (decide (wh v < 0) != decide (d < 0)) (dq v.natAbs d.natAbs)
theorem div_big (v d : Int) (h : d.natAbs ≤ v.natAbs / 18446744073709551616) (h0 : 0 < d.natAbs) : divZ v d < -9223372036854775808 ∨ 9223372036854775807 < divZ v d := by
  have h1 : 18446744073709551616 ≤ v.natAbs / d.natAbs := by
    rw [Nat.le_div_iff_mul_le h0]
    omega
  have h2 : 18446744073709551616 ≤ dq v.natAbs d.natAbs := by unfold dq; omega
  unfold divZ withSign
  split <;> omega
theorem div_big2 (v d : Int) (h : 9223372036854775808 < v.natAbs / d.natAbs) : divZ v d < -9223372036854775808 ∨ 9223372036854775807 < divZ v d := by
  have h2 : 9223372036854775808 < dq v.natAbs d.natAbs := by unfold dq; omega
  unfold divZ withSign
  split <;> omega
set_option maxHeartbeats 4000000 in
theorem wdiv_any (v d : Int) (w : World) (hv : InW v) (d1 : -9223372036854775808 ≤ d) (d2 : d ≤ 9223372036854775807) (d0 : d ≠ 0) :
    Calls Try.prog 30 #[Wv v, .int .i64 d] w fun e w' => e = .returned (.tuple #[.int .i64 (sval (divZ v d)), .bool (sok (divZ v d))]) ∧ Below w.heap.size w w' := by
  have hd := inW_small d d1 d2
  have hlD : wl d.natAbs = (d.natAbs : Int) := by unfold wl; omega
  have hlo := wlN v.natAbs
  have hhi := whN v.natAbs
  have HLD := Lib.hid hlD
  have HLO := Lib.hid hlo
  have HHI := Lib.hid hhi
  have hDp : 0 < d.natAbs := by omega
  have hDb : d.natAbs < 18446744073709551616 := by omega
  have hmod : v.natAbs / 18446744073709551616 * 18446744073709551616 + v.natAbs % 18446744073709551616 = v.natAbs := Nat.div_add_mod' _ _
  have HM := Lib.hid hmod
  have HB := Lib.hid (And.intro hDp hDb)
  clear hlD hlo hhi hmod hDp hDb d0
  go_enter Try.func30, Try.ntmps30
  go_wp2_with fail
  generalize hW : World.alloc w _ = W
  have e0 : W.heap[w.heap.size]? = some (.cells #[.int .i64 (wh v), .int .u64 (wl v)] 27 (0, 0)) := by subst hW; exact heap_alloc_new w _
  have a0 : W.cell? ⟨w.heap.size, 0, none⟩ = some (.int .i64 (wh v)) := by rw [cell_of_row W _ _ _ _ _ e0]; rfl
  have hB : Below w.heap.size w W := by subst hW; exact (Below.refl _ _).alloc (Nat.le_refl _) _
  have hw : w.heap.size < W.heap.size := by subst hW; simp
  have hw' := Nat.le_of_lt hw
  clear hW e0
  refine (wsize_any v _ hv).mono ?_
  rintro e w1 ⟨rfl, hb⟩
  have hE1 := Ext.call hw' (Ext.start0 hB) hb
  clear hb hB
  go_wp2_with fail
  refine (wof_any d _ d1 d2).mono ?_
  rintro e w2 ⟨rfl, hb⟩
  have hE2 := Ext.call hw' hE1 hb
  clear hb hE1
  go_wp2_with fail
  refine (wsize_any d _ hd).mono ?_
  rintro e w3 ⟨rfl, hb⟩
  obtain ⟨j1, j4, j5⟩ := Ext.call hw' hE2 hb
  clear hb hE2
  by_cases hbig : d.natAbs ≤ v.natAbs / 18446744073709551616
  · have hN := sok_no (div_big v d hbig HB.out.1)
    have HN := Lib.hid hN
    have t1 : wl d.natAbs ≤ wh v.natAbs := by rw [HLD.out, HHI.out]; omega
    clear hN hbig
    go_wp2_with fail
    go_ret2
    exact ⟨tupleb HN.out.2 HN.out.1, j4⟩
  · have t1 : ¬ wl d.natAbs ≤ wh v.natAbs := by rw [HLD.out, HHI.out]; omega
    have HL := Lib.hid (show v.natAbs / 18446744073709551616 < d.natAbs by omega)
    clear hbig
    go_wp2_with fail
    refine (div64_at _ _ _ (v.natAbs / 18446744073709551616) (v.natAbs % 18446744073709551616) d.natAbs _ HHI.out HLO.out HLD.out (Nat.mod_lt _ (by omega)) HL.out HB.out.2).mono ?_
    rintro e w4 ⟨rfl, hb⟩
    rw [HM.out]
    obtain ⟨j1', j4', j5'⟩ := Ext.call hw' ⟨j1, j4, j5⟩ hb
    clear hb j1 j4 j5
    have a1 : w4.cell? ⟨w.heap.size, 0, none⟩ = some (.int .i64 (wh v)) := (j1' _ _ hw).trans a0
    clear j1'
    by_cases hq : 9223372036854775808 < v.natAbs / d.natAbs
    · have HN := Lib.hid (sok_no (div_big2 v d hq))
      have t2 : (9223372036854775808 : Int) < ((v.natAbs / d.natAbs : Nat) : Int) := by omega
      clear hq
      generalize v.natAbs / d.natAbs = Q at *
      generalize v.natAbs % d.natAbs = R at *
      go_wp2_with fail
      go_ret2
      exact ⟨tupleb HN.out.2 HN.out.1, j4'⟩
    · have t2 : ¬ (9223372036854775808 : Int) < ((v.natAbs / d.natAbs : Nat) : Int) := by omega
      have hR := Nat.mod_lt v.natAbs HB.out.1
      have DQ := Lib.hid (show dq v.natAbs d.natAbs = v.natAbs / d.natAbs + (if d.natAbs ≤ 2 * (v.natAbs % d.natAbs) then 1 else 0) from rfl)
      have HQ := Lib.hid (show ((v.natAbs / d.natAbs : Nat) : Int) ≤ 9223372036854775808 by omega)
      clear hq
      generalize v.natAbs / d.natAbs = Q at *
      generalize v.natAbs % d.natAbs = R at *
      have r1 : (R : Int) < wl d.natAbs := by rw [HLD.out]; omega
      have r0 : (0 : Int) ≤ R := by omega
      have r2 : wl d.natAbs < 18446744073709551616 := wl_hi _
      have q0 : (0 : Int) ≤ Q := by omega
      by_cases hr : d.natAbs ≤ 2 * R
      · have t3 : wl d.natAbs - R ≤ R := by rw [HLD.out]; omega
        have HX0 := (show (Q : Int) + 1 = (dq v.natAbs d.natAbs : Nat) by rw [DQ.out, if_pos hr]; omega)
        have HY : Lt64 (dq v.natAbs d.natAbs) := ⟨by have := HQ.out; rw [DQ.out]; split <;> omega⟩
        have HX := Lib.hid HX0
        clear HX0 hr hR HB HL HM HLO HHI HLD DQ HQ
        generalize hDQ : dq v.natAbs d.natAbs = K at *
        generalize (Q : Int) = x at *
        generalize (R : Int) = z at *
        generalize wl (d.natAbs : Int) = y at *
        go_wp2_with fail
        subst hDQ
        refine (signed_at _ (dq v.natAbs d.natAbs) _ _ HX.out HY.out).mono ?_
        rintro e w5 ⟨rfl, rfl⟩
        go_wp2_with fail
        go_ret2
        exact ⟨rfl, j4'⟩
      · have t3 : ¬ wl d.natAbs - R ≤ R := by rw [HLD.out]; omega
        have HX0 := (show (Q : Int) = (dq v.natAbs d.natAbs : Nat) by rw [DQ.out, if_neg hr]; omega)
        have HY : Lt64 (dq v.natAbs d.natAbs) := ⟨by have := HQ.out; rw [DQ.out]; split <;> omega⟩
        have HX := Lib.hid HX0
        clear HX0 hr hR HB HL HM HLO HHI HLD DQ HQ
        generalize hDQ : dq v.natAbs d.natAbs = K at *
        generalize (Q : Int) = x at *
        generalize (R : Int) = z at *
        generalize wl (d.natAbs : Int) = y at *
        go_wp2_with fail
        subst hDQ
        refine (signed_at _ (dq v.natAbs d.natAbs) _ _ HX.out HY.out).mono ?_
        rintro e w5 ⟨rfl, rfl⟩
        go_wp2_with fail
        go_ret2
        exact ⟨rfl, j4'⟩
theorem wdiv_zero (v : Int) (w : World) (hv : InW v) :
    Calls Try.prog 30 #[Wv v, .int .i64 0] w fun e w' => e = .returned (.tuple #[.int .i64 0, .bool false]) ∧ Below w.heap.size w w' := by
  have t1 : (0 : Int) ≤ wh v.natAbs := by unfold wh; omega
  go_enter Try.func30, Try.ntmps30
  go_wp2_with fail
  generalize hW : World.alloc w _ = W
  have hB : Below w.heap.size w W := by subst hW; exact (Below.refl _ _).alloc (Nat.le_refl _) _
  have hw : w.heap.size < W.heap.size := by subst hW; simp
  have hw' := Nat.le_of_lt hw
  clear hW
  refine (wsize_any v _ hv).mono ?_
  rintro e w1 ⟨rfl, hb⟩
  have hE1 := Ext.call hw' (Ext.start0 hB) hb
  clear hb hB
  go_wp2_with fail
  refine (wof_any 0 _ (by omega) (by omega)).mono ?_
  rintro e w2 ⟨rfl, hb⟩
  have hE2 := Ext.call hw' hE1 hb
  clear hb hE1
  go_wp2_with fail
  refine (wsize_any 0 _ inW_zero).mono ?_
  rintro e w3 ⟨rfl, hb⟩
  obtain ⟨j1, j4, j5⟩ := Ext.call hw' hE2 hb
  clear hb hE2
  rw [show wl ((0 : Int).natAbs : Int) = 0 from rfl]
  go_wp2_with fail
  go_ret2
  exact ⟨rfl, j4⟩
end Go.Proofs.Ytahedampmjfoeaa
