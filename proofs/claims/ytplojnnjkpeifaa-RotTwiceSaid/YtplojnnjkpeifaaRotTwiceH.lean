/- astrolabelaw7.RotTwice: the facts, and both cases. -/
import Derived.Test.YtplojnnjkpeifaaRotTwiceR0
import Derived.Test.YtplojnnjkpeifaaRotTwiceR1
import Derived.Test.YtplojnnjkpeifaaTrW
namespace Go.Proofs.Ytplojnnjkpeifaa.rotTwice
open Go SX Tr
theorem not0 {z : Int} (h : z = 0) : ieq (b2i (!ieq z 1)) 1 = true := by subst h; rfl
theorem U18q {r0 r1 r2 r3 : Int} (b0 : -1073743000 ≤ r0 ∧ r0 ≤ 1073743000) (b1 : -1073743000 ≤ r1 ∧ r1 ≤ 1073743000) (b2 : -1073743000 ≤ r2 ∧ r2 ≤ 1073743000) (b3 : -1073743000 ≤ r3 ∧ r3 ≤ 1073743000) :
    ∃ y, U 18 [30, 1, r0, r0, r1, r1, r2, r2, r3, r3] = y ∧ -536870912 ≤ 1073741824 * y - (r0 * r0 - (r1 * r1 + r2 * r2 + r3 * r3)) ∧ 1073741824 * y - (r0 * r0 - (r1 * r1 + r2 * r2 + r3 * r3)) ≤ 536870912 := by
  refine ⟨_, rfl, ?_⟩
  show _ ≤ 1073741824 * satv (rnd (((0 : Int) + satv r0 * satv r0) - (((0 + satv r3 * satv r3) + satv r2 * satv r2) + satv r1 * satv r1)) (30 : Int).toNat) - _ ∧ 1073741824 * satv (rnd (((0 : Int) + satv r0 * satv r0) - (((0 + satv r3 * satv r3) + satv r2 * satv r2) + satv r1 * satv r1)) (30 : Int).toNat) - _ ≤ _
  rw [satv_id (a := r0) (by unfold mx; omega) (by unfold mx; omega), satv_id (a := r1) (by unfold mx; omega) (by unfold mx; omega), satv_id (a := r2) (by unfold mx; omega) (by unfold mx; omega), satv_id (a := r3) (by unfold mx; omega) (by unfold mx; omega)]
  have k0 := bil b0.1 b0.2 b0.1 b0.2
  have k1 := bil b1.1 b1.2 b1.1 b1.2
  have k2 := bil b2.1 b2.2 b2.1 b2.2
  have k3 := bil b3.1 b3.2 b3.1 b3.2
  have hr := rnd_nr (((0 : Int) + r0 * r0) - (((0 + r3 * r3) + r2 * r2) + r1 * r1)) 30
  have e : ((2 ^ 30 : Nat) : Int) = 1073741824 := by decide
  have e' : (30 : Int).toNat = 30 := by decide
  rw [e] at hr
  rw [e', satv_id (by unfold mx; omega) (by unfold mx; omega)]
  omega
/-- The argument's even part. -/
def ev2 (a : Int) : Int := (a.tmod 1610612736).tdiv 2
theorem ev2_in (a : Int) : -805306368 ≤ ev2 a ∧ ev2 a ≤ 805306368 := by
  have h1 := Int.tmod_lt_of_pos a (show (0 : Int) < 1610612736 by decide)
  have h2 := Int.lt_tmod_of_pos a (show (0 : Int) < 1610612736 by decide)
  have h3 : ((a.tmod 1610612736).tdiv 2).natAbs = (a.tmod 1610612736).natAbs / 2 := Int.natAbs_tdiv _ 2
  unfold ev2
  generalize a.tmod 1610612736 = m at *
  generalize m.tdiv 2 = q at *
  omega
theorem ev2_is {x y z w v a : Int} (ia : -9223372036854775808 ≤ a ∧ a ≤ 9223372036854775807) (e3 : x = wrapF .i64 a) (e6 : y = x.tmod 1610612736) (e7 : z = wrapF .i64 (y.tdiv 2)) (e8 : w = 2 * z + 0) (e15 : v = wrapF .i64 (w.tdiv 2)) : v = ev2 a ∧ w = 2 * v := by
  rw [SX.wrap_small ia.1 ia.2] at e3
  have k := ev2_in a
  have hy : y.tdiv 2 = ev2 a := by rw [e6, e3]; rfl
  rw [hy, SX.wrap_small (by omega) (by omega)] at e7
  have hw : w.tdiv 2 = ev2 a := by rw [e8, e7, Int.add_zero]; exact Int.mul_tdiv_cancel_left _ (by decide)
  rw [hw, SX.wrap_small (by omega) (by omega)] at e15
  omega
theorem ok0 {g : Sg} {a b c : Int} (ia : -9223372036854775808 ≤ a ∧ a ≤ 9223372036854775807) (ib : -9223372036854775808 ≤ b ∧ b ≤ 9223372036854775807) (ic : -9223372036854775808 ≤ c ∧ c ≤ 9223372036854775807)
    (e0 : g 0 = a) (f0 : g 1 = b) (h0 : g 2 = c) (ha : ev2 a = 0 ∧ ev2 b = 0 ∧ ev2 c = 0) (he : EqsP g ds0) : FactsOk g facts0 ∧ ieq (rv0.val g) 1 = true := by
  obtain ⟨e3, e4, e5, e6, e7, e8, e9, e10, e11, e12, e13, e14, e15, e16, e17, e18, e20, _⟩ := eqs0 he
  rw [e0] at e3
  rw [f0] at e4
  rw [h0] at e5
  have x1 := ev2_is ia e3 e6 e7 e8 e15
  have x2 := ev2_is ib e4 e9 e10 e11 e16
  have x3 := ev2_is ic e5 e12 e13 e14 e17
  have z1 : g 15 = 0 := by omega
  have z2 : g 16 = 0 := by omega
  have z3 : g 17 = 0 := by omega
  have y1 : g 8 = 0 := by omega
  have y2 : g 11 = 0 := by omega
  have y3 : g 14 = 0 := by omega
  have u : U 32 [0, 0, 0] = 0 := by kernel_rfl
  rw [z1, z2, z3, u] at e18
  rw [y1, y2, y3, u] at e20
  exact ⟨told0 e18 e20, rfl⟩
theorem ok1 {g : Sg} {a b c : Int} (ia : -9223372036854775808 ≤ a ∧ a ≤ 9223372036854775807) (ib : -9223372036854775808 ≤ b ∧ b ≤ 9223372036854775807) (ic : -9223372036854775808 ≤ c ∧ c ≤ 9223372036854775807)
    (e0 : g 0 = a) (f0 : g 1 = b) (h0 : g 2 = c) (ha : ¬ (ev2 a = 0 ∧ ev2 b = 0 ∧ ev2 c = 0)) (he : EqsP g ds1) : FactsOk g facts1 ∧ ieq (rv1.val g) 1 = true := by
  obtain ⟨e3, e4, e5, e6, e7, e8, e9, e10, e11, e12, e13, e14, e15, e16, e17, e18, e20, e21, e22, e23, e24, e25, e26, e29, e30, e35, e36, e37, e38, e39, e40, e41, e42, e43, e44, e48, e49, e50, e51, e52, e54, e55, e56, e57, e58, e59, e60, e61, e64, e65, e70, e71, e72, e73, e74, e75, e76, e77, e78, e79, e80, e84, e88, e92, e96, _⟩ := eqs1 he
  rw [e0] at e3
  rw [f0] at e4
  rw [h0] at e5
  have x1 := ev2_is ia e3 e6 e7 e8 e15
  have x2 := ev2_is ib e4 e9 e10 e11 e16
  have x3 := ev2_is ic e5 e12 e13 e14 e17
  have b1 := ev2_in a
  have b2 := ev2_in b
  have b3 := ev2_in c
  clear e3 e4 e5 e6 e7 e8 e9 e10 e11 e12 e13 e14 e15 e16 e17
  have c30 : g 30 = sinF (1686629713 + g 20) := by rw [e30]; show sinF (g 29) = _; rw [e29]; congr 1; omega
  have c65 : g 65 = sinF (1686629713 + g 54) := by rw [e65]; show sinF (g 64) = _; rw [e64]; congr 1; omega
  obtain ⟨⟨sp, n0, nb, i1, i2, i3⟩, hh, fc, fs, cb, sb, qb, z5, A1, A2, A3, AS, Nb, Mb, r0, r1, r2, r3⟩ := exp_T (p1 := g 15) (p2 := g 16) (p3 := g 17) (by omega) (by omega) (by omega) (by omega) (by omega) (by omega) e18 (by omega) e20 e21 c30 e22 e24 e25 e26 e35 e36 e37 e38 e39 e40 e41 e42 e43 e44
  obtain ⟨⟨sp', n0', nb', i1', i2', i3'⟩, hh', fc', fs', cb', sb', qb', z5', A1', A2', A3', AS', Nb', Mb', r0', r1', r2', r3'⟩ := exp_T (p1 := g 8) (p2 := g 11) (p3 := g 14) (by omega) (by omega) (by omega) (by omega) (by omega) (by omega) e52 (by omega) e54 e55 c65 e56 e59 e60 e61 e70 e71 e72 e73 e74 e75 e76 e77 e78 e79
  rw [← e23] at z5
  rw [← e57] at z5'
  clear e18 e20 e21 e22 e23 e24 e25 e26 e29 e30 e35 e36 e37 e38 e39 e40 e41 e42 e43 e44 e52 e54 e55 e56 e57 e59 e60 e61 e64 e65 e70 e71 e72 e73 e74 e75 e76 e77 e78 e79 c30 c65
  have w1 := x1.2
  have w2 := x2.2
  have w3 := x3.2
  have hd : -1 ≤ g 52 - 2 * g 18 ∧ g 52 - 2 * g 18 ≤ 1 := by
    refine len_double sp (m := g 52) ?_ n0
    have e : g 8 * g 8 + g 11 * g 11 + g 14 * g 14 = 4 * (g 15 * g 15 + g 16 * g 16 + g 17 * g 17) := by rw [w1, w2, w3]; grind
    rw [← e]; exact sp'
  rw [w1] at A1'
  rw [w2] at A2'
  rw [w3] at A3'
  -- the squares are bounded, so are the numbers
  have q0 := Nm.sqnn (g 24)
  have q1 := Nm.sqnn (g 25)
  have q2 := Nm.sqnn (g 26)
  have Q0 := Nm.sqnn (g 59)
  have Q1 := Nm.sqnn (g 60)
  have Q2 := Nm.sqnn (g 61)
  have bc := cT_in (x := g 20) (by omega) (by omega)
  have bs := sT_in (x := g 20) (by omega) (by omega)
  have gg := diff_c (x := g 20) (y := g 20) (by omega) (by omega) (by omega) (by omega)
  rw [Int.sub_self, cT0] at gg
  have o1 := prod_near (u := 16384 * g 30) (p := cT (g 20)) (v := 16384 * g 30) (q := cT (g 20)) (F := 36561) (by omega) (by omega) (by omega) (by omega) (by decide) (by omega) (by omega) (by omega) (by omega)
  have o2 := prod_near (u := 16384 * g 21) (p := sT (g 20)) (v := 16384 * g 21) (q := sT (g 20)) (F := 36561) (by omega) (by omega) (by omega) (by omega) (by decide) (by omega) (by omega) (by omega) (by omega)
  have o3 := prod_near (u := 16384 * g 30) (p := cT (g 20)) (v := 16384 * g 21) (q := sT (g 20)) (F := 36561) (by omega) (by omega) (by omega) (by omega) (by decide) (by omega) (by omega) (by omega) (by omega)
  have t1 : 16384 * g 30 * (16384 * g 30) = 268435456 * (g 30 * g 30) := by grind
  have t2 : 16384 * g 21 * (16384 * g 21) = 268435456 * (g 21 * g 21) := by grind
  have t3 : 16384 * g 30 * (16384 * g 21) = 268435456 * (g 30 * g 21) := by grind
  rw [t1] at o1
  rw [t2] at o2
  rw [t3] at o3
  have k1 := sum_c (x := g 20) (y := g 20) (by omega) (by omega) (by omega) (by omega)
  have k2 := sum_s (x := g 20) (y := g 20) (by omega) (by omega) (by omega) (by omega)
  rw [Int.mul_comm (sT (g 20)) (cT (g 20))] at k2
  rw [show g 20 + g 20 = 2 * g 20 by omega] at k1 k2
  have sh := shift2 (x := 2 * g 20) (y := g 54) (by omega) (by omega) (by omega) (by omega)
  have sl := sT_le (z := 2 * g 20) (by omega) (by omega)
  have v0 := abs_of_sq (x := g 24) (B := 1073742500) (by decide) (by omega)
  have v1 := abs_of_sq (x := g 25) (B := 1073742500) (by decide) (by omega)
  have v2 := abs_of_sq (x := g 26) (B := 1073742500) (by decide) (by omega)
  have G1 : -2714000000000000000 ≤ 17592186044416 * cT (2 * g 20) - 268435456 * (g 30 * g 30 - g 21 * g 21) ∧ 17592186044416 * cT (2 * g 20) - 268435456 * (g 30 * g 30 - g 21 * g 21) ≤ 2714000000000000000 := by omega
  have G2 : -2574000000000000000 ≤ 17592186044416 * sT (2 * g 20) - 536870912 * (g 30 * g 21) ∧ 17592186044416 * sT (2 * g 20) - 536870912 * (g 30 * g 21) ≤ 2574000000000000000 := by omega
  have S1 : -(24085 * (g 18 + 1)) ≤ sT (2 * g 20) ∧ sT (2 * g 20) ≤ 24085 * (g 18 + 1) := by omega
  have H1 : -69400 ≤ 16384 * g 55 - sT (2 * g 20) ∧ 16384 * g 55 - sT (2 * g 20) ≤ 69400 := by omega
  have H2 : -69400 ≤ 16384 * g 65 - cT (2 * g 20) ∧ 16384 * g 65 - cT (2 * g 20) ≤ 69400 := by omega
  have cu : g 30 ≤ 1073742000 := by omega
  clear o1 o2 o3 t1 t2 t3 k1 k2 sh sl gg bc bs q0 q1 q2 Q0 Q1 Q2 sp sp' fc fs fc' fs' hh hh'
  obtain ⟨y0, m0, m01, m02⟩ := U18q (r0 := g 41) (r1 := g 42) (r2 := g 43) (r3 := g 44) (by omega) (by omega) (by omega) (by omega)
  obtain ⟨y1, m1, m11, m12⟩ := U16_is (r := g 41) (s := g 42) (by omega) (by omega) (by omega) (by omega)
  obtain ⟨y2, m2, m21, m22⟩ := U16_is (r := g 41) (s := g 43) (by omega) (by omega) (by omega) (by omega)
  obtain ⟨y3, m3, m31, m32⟩ := U16_is (r := g 41) (s := g 44) (by omega) (by omega) (by omega) (by omega)
  rw [m0] at e48
  rw [m1] at e49
  rw [m2] at e50
  rw [m3] at e51
  subst e48 e49 e50 e51
  have D0 := first_c (R := g 76) (C := g 65) m01 m02 r0 r1 r2 r3 (by omega) (by omega) (by omega) (by omega) AS G1.1 G1.2 r0' H2.1 H2.2
  have T1 := twice_c (n := g 18) (p := g 15) n0 i1.1 i1.2 m11 m12 r0 r1 (by omega) (by omega) (by omega) (by omega) A1 G2.1 G2.2
  have T2 := twice_c (n := g 18) (p := g 16) n0 i2.1 i2.2 m21 m22 r0 r2 (by omega) (by omega) (by omega) (by omega) A2 G2.1 G2.2
  have T3 := twice_c (n := g 18) (p := g 17) n0 i3.1 i3.2 m31 m32 r0 r3 (by omega) (by omega) (by omega) (by omega) A3 G2.1 G2.2
  have O1 := once_c (n := g 52) (p := g 15) n0' (by omega) (by omega) r1' A1' H1.1 H1.2
  have O2 := once_c (n := g 52) (p := g 16) n0' (by omega) (by omega) r2' A2' H1.1 H1.2
  have O3 := once_c (n := g 52) (p := g 17) n0' (by omega) (by omega) r3' A3' H1.1 H1.2
  have D1 := both_c n0 n0' hd.1 hd.2 i1.1 i1.2 S1.1 S1.2 T1.1 T1.2 O1.1 O1.2
  have D2 := both_c n0 n0' hd.1 hd.2 i2.1 i2.2 S1.1 S1.2 T2.1 T2.2 O2.1 O2.2
  have D3 := both_c n0 n0' hd.1 hd.2 i3.1 i3.2 S1.1 S1.2 T3.1 T3.2 O3.1 O3.2
  clear T1 T2 T3 O1 O2 O3 G1 G2 m01 m02 m11 m12 m21 m22 m31 m32 AS A1 A2 A3 A1' A2' A3' AS'
  refine ⟨told1 (by omega) (by omega) (by omega) (by omega) (by omega) (by omega) (by omega) (by omega) (by omega) (by omega) (by omega) (by omega) (by omega) (by omega) (by omega) (by omega) (by omega) (by omega) (by omega) (by omega) (by omega) (by omega) (by omega) (by omega), ?_⟩
  show ieq (g 96) 1 = true
  rw [e96]
  refine not0 ?_
  rw [e58, z5, z5']; rfl
theorem walk {a b c : Int} (wa : (Lit.int .i64 a).wf = true) (wb : (Lit.int .i64 b).wf = true) (wc : (Lit.int .i64 c).wf = true) {W : World} {v : Value} (fit : FitAs W [.agg [some .i64, some .i64, some .i64]] [v] [.int .i64 a, .int .i64 b, .int .i64 c]) :
    Calls Try.prog 10 #[v] W fun e w' => e = .returned (.bool true) ∧ RowKit.Below W.heap.size W w' := by
  have v0 := wf_i64 wa
  have v1 := wf_i64 wb
  have v2 := wf_i64 wc
  by_cases h3 : ev2 a = 0 ∧ ev2 b = 0 ∧ ev2 c = 0
  · exact law_fitH (all := [.int .i64 a, .int .i64 b, .int .i64 c]) namesOk mixed (fun g => sumsS_ok g) ran0 (fun g hg he => ok0 (a := a) (b := b) (c := c) (by omega) (by omega) (by omega) (hg 0 (by decide)) (hg 1 (by decide)) (hg 2 (by decide)) h3 he) fit
  · exact law_fitH (all := [.int .i64 a, .int .i64 b, .int .i64 c]) namesOk mixed (fun g => sumsS_ok g) ran1 (fun g hg he => ok1 (a := a) (b := b) (c := c) (by omega) (by omega) (by omega) (hg 0 (by decide)) (hg 1 (by decide)) (hg 2 (by decide)) h3 he) fit
set_option maxRecDepth 100000 in
theorem walkL {us : List Value} (f : FitL [some .i64, some .i64, some .i64] us) {W : World} :
    Calls Try.prog 10 #[.agg ⟨us⟩] W fun e w' => e = .returned (.bool true) ∧ RowKit.Below W.heap.size W w' := by
  rcases us with _ | ⟨x, _ | ⟨y, _ | ⟨z, _ | ⟨t, r⟩⟩⟩⟩
  · exact f.elim
  · exact f.2.elim
  · exact f.2.2.elim
  · obtain ⟨f1, f2, f3, _⟩ := f
    obtain ⟨a, rfl, wa⟩ := f1
    obtain ⟨b, rfl, wb⟩ := f2
    obtain ⟨c, rfl, wc⟩ := f3
    exact walk wa wb wc ⟨[.int .i64 a, .int .i64 b, .int .i64 c], [], rfl, ⟨rfl, ⟨⟨a, rfl, wa⟩, ⟨b, rfl, wb⟩, ⟨c, rfl, wc⟩, trivial⟩⟩, rfl⟩
  · exact f.2.2.2.elim
end Go.Proofs.Ytplojnnjkpeifaa.rotTwice
