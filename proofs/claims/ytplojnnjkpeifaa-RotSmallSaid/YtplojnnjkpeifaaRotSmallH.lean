/- astrolabelaw7.RotSmall: the facts, and both cases. -/
import Derived.Test.YtplojnnjkpeifaaRotSmallR0
import Derived.Test.YtplojnnjkpeifaaRotSmallR1
import Derived.Test.YtplojnnjkpeifaaTrU
namespace Go.Proofs.Ytplojnnjkpeifaa.rotSmall
open Go SX Tr
theorem not0 {z : Int} (h : z = 0) : ieq (b2i (!ieq z 1)) 1 = true := by subst h; rfl
theorem rem_in {x y a : Int} (M : Int) (hM : 0 < M) (ia : -9223372036854775808 ≤ a ∧ a ≤ 9223372036854775807) (e : x = wrapF .i64 a) (f : y = x.tmod M) : y = a.tmod M ∧ -M < y ∧ y < M := by
  rw [SX.wrap_small ia.1 ia.2] at e
  subst e
  have h1 := Int.tmod_lt_of_pos x hM
  have h2 := Int.lt_tmod_of_pos x hM
  rw [f]
  exact ⟨rfl, by omega, h1⟩
abbrev In (a : Int) : Prop := -9223372036854775808 ≤ a ∧ a ≤ 9223372036854775807
theorem ok0 {g : Sg} {a b c : Int} (ia : In a) (ib : In b) (ic : In c) (e0 : g 0 = a) (f0 : g 1 = b) (h0 : g 2 = c) (ha : a.tmod 1048576 = 0 ∧ b.tmod 1048576 = 0 ∧ c.tmod 1048576 = 0) (he : EqsP g ds0) : FactsOk g facts0 ∧ ieq (rv0.val g) 1 = true := by
  obtain ⟨e6, e7, e8, e12, e14, e16, e18, _⟩ := eqs0 he
  rw [e0] at e6
  rw [f0] at e7
  rw [h0] at e8
  have x1 := rem_in 1048576 (by decide) ia e6 e12
  have x2 := rem_in 1048576 (by decide) ib e7 e14
  have x3 := rem_in 1048576 (by decide) ic e8 e16
  have z1 : g 12 = 0 := by omega
  have z2 : g 14 = 0 := by omega
  have z3 : g 16 = 0 := by omega
  have u : U 32 [0, 0, 0] = 0 := by kernel_rfl
  rw [z1, z2, z3, u] at e18
  exact ⟨told0 e18 (by omega) (by omega) (by omega) (by omega) (by omega) (by omega), rfl⟩
theorem ok1 {g : Sg} {a b c p q r : Int} (ia : In a) (ib : In b) (ic : In c) (ip : In p) (iq : In q) (ir : In r)
    (e0 : g 0 = a) (f0 : g 1 = b) (h0 : g 2 = c) (j0 : g 3 = p) (k0 : g 4 = q) (l0 : g 5 = r) (ha : ¬ (a.tmod 1048576 = 0 ∧ b.tmod 1048576 = 0 ∧ c.tmod 1048576 = 0)) (he : EqsP g ds1) : FactsOk g facts1 ∧ ieq (rv1.val g) 1 = true := by
  obtain ⟨e6, e7, e8, e9, e10, e11, e12, e13, e14, e15, e16, e17, e18, e20, e21, e22, e23, e24, e25, e26, e29, e30, e35, e36, e37, e38, e39, e40, e41, e42, e43, e44, e49, e50, e52, e53, e54, e55, e57, e59, e60, e61, e62, e63, e66, e68, e71, e75, e78, e81, e84, _⟩ := eqs1 he
  rw [e0] at e6
  rw [f0] at e7
  rw [h0] at e8
  rw [j0] at e9
  rw [k0] at e10
  rw [l0] at e11
  have x1 := rem_in 1048576 (by decide) ia e6 e12
  have x2 := rem_in 1048576 (by decide) ib e7 e14
  have x3 := rem_in 1048576 (by decide) ic e8 e16
  have y1 := rem_in 17179869184 (by decide) ip e9 e13
  have y2 := rem_in 17179869184 (by decide) iq e10 e15
  have y3 := rem_in 17179869184 (by decide) ir e11 e17
  clear e6 e7 e8 e9 e10 e11 e12 e13 e14 e15 e16 e17
  have c30 : g 30 = sinF (1686629713 + g 20) := by rw [e30]; show sinF (g 29) = _; rw [e29]; congr 1; omega
  obtain ⟨⟨sp, n0, nb, i1, i2, i3⟩, hh, fc, fs, cb, sb, qb, z5, A1, A2, A3, AS, Nb, Mb, r0, r1, r2, r3⟩ := exp_T (p1 := g 12) (p2 := g 14) (p3 := g 16) (by omega) (by omega) (by omega) (by omega) (by omega) (by omega) e18 (by omega) e20 e21 c30 e22 e24 e25 e26 e35 e36 e37 e38 e39 e40 e41 e42 e43 e44
  rw [← e23] at z5
  clear e18 e20 e21 e22 e23 e24 e25 e26 e29 e30 e35 e36 e37 e38 e39 e40 e41 e42 e43 e44 c30
  have nb2 : g 18 ≤ 2000000 := by
    refine Int.not_lt.1 fun hc => ?_
    have q1 := bil (u := g 12) (d := g 12) (B := 1048576) (S := 1048576) (by omega) (by omega) (by omega) (by omega)
    have q2 := bil (u := g 14) (d := g 14) (B := 1048576) (S := 1048576) (by omega) (by omega) (by omega) (by omega)
    have q3 := bil (u := g 16) (d := g 16) (B := 1048576) (S := 1048576) (by omega) (by omega) (by omega) (by omega)
    have k := Int.mul_le_mul (show 2000000 ≤ g 18 by omega) (show 2000000 ≤ g 18 - 1 by omega) (by omega) (by omega)
    have e : g 18 * (g 18 - 1) = g 18 * g 18 - g 18 := by grind
    rcases sp.lo with h | h <;> omega
  have sm := small_T (h := g 20) (by omega) (by omega)
  have C1 := small_c n0 nb2 i1.1 i1.2 hh fs sm.1 A1 r1
  have C2 := small_c n0 nb2 i2.1 i2.2 hh fs sm.1 A2 r2
  have C3 := small_c n0 nb2 i3.1 i3.2 hh fs sm.1 A3 r3
  have bc := cT_in (x := g 20) (by omega) (by omega)
  have ra : 1073740700 ≤ g 41 ∧ g 41 ≤ 1073741900 := by omega
  have rb : -524350 ≤ g 42 ∧ g 42 ≤ 524350 := by omega
  have rc : -524350 ≤ g 43 ∧ g 43 ≤ 524350 := by omega
  have rd : -524350 ≤ g 44 ∧ g 44 ≤ 524350 := by omega
  clear A1 A2 A3 AS r0 r1 r2 r3 sp fc fs sm bc hh i1 i2 i3
  have ra' : -17179869184 ≤ g 41 ∧ g 41 ≤ 17179869184 := by omega
  have rb' : -17179869184 ≤ g 42 ∧ g 42 ≤ 17179869184 := by omega
  have rc' : -17179869184 ≤ g 43 ∧ g 43 ≤ 17179869184 := by omega
  have rd' : -17179869184 ≤ g 44 ∧ g 44 ≤ 17179869184 := by omega
  obtain ⟨m49, t49, u49, w49⟩ := M_diag ra' rb' rc' rd'
  obtain ⟨m50, t50, u50, w50⟩ := M_minus ra' rd' rb' rc'
  obtain ⟨m52, t52, u52, w52⟩ := M_plus ra' rc' rb' rd'
  obtain ⟨m53, t53, u53, w53⟩ := M_plus ra' rd' rb' rc'
  obtain ⟨m54, t54, u54, w54⟩ := M_diag ra' rc' rb' rd'
  obtain ⟨m55, t55, u55, w55⟩ := M_minus ra' rb' rc' rd'
  obtain ⟨m57, t57, u57, w57⟩ := M_minus ra' rc' rb' rd'
  obtain ⟨m59, t59, u59, w59⟩ := M_plus ra' rb' rc' rd'
  obtain ⟨m60, t60, u60, w60⟩ := M_diag ra' rd' rb' rc'
  have e49' := e49.trans t49
  have e50' := e50.trans t50
  have e52' := e52.trans t52
  have e53' := e53.trans t53
  have e54' := e54.trans t54
  have e55' := e55.trans t55
  have e57' := e57.trans t57
  have e59' := e59.trans t59
  have e60' := e60.trans t60
  have N49 := diag_small (m := m49) ra rb rc rd u49 w49
  have N54 := diag_small (m := m54) ra rc rb rd u54 w54
  have N60 := diag_small (m := m60) ra rd rb rc u60 w60
  have N50 := off_small (m := m50) (-1) (.inr rfl) ra rd rb rc C3 (by omega) (by omega)
  have N52 := off_small (m := m52) 1 (.inl rfl) ra rc rb rd C2 (by omega) (by omega)
  have N53 := off_small (m := m53) 1 (.inl rfl) ra rd rb rc C3 (by omega) (by omega)
  have N55 := off_small (m := m55) (-1) (.inr rfl) ra rb rc rd C1 (by omega) (by omega)
  have N57 := off_small (m := m57) (-1) (.inr rfl) ra rc rb rd C2 (by omega) (by omega)
  have N59 := off_small (m := m59) 1 (.inl rfl) ra rb rc rd C1 (by omega) (by omega)
  rw [e49', e52', e50'] at e61
  rw [e53', e54', e55'] at e62
  rw [e57', e59', e60'] at e63
  clear u49 w49 u50 w50 u52 w52 u53 w53 u54 w54 u55 w55 u57 w57 u59 w59 u60 w60 t49 t50 t52 t53 t54 t55 t57 t59 t60 e49 e50 e52 e53 e54 e55 e57 e59 e60 e49' e50' e52' e53' e54' e55' e57' e59' e60' C1 C2 C3
  have v1 : -17179869184 ≤ g 13 ∧ g 13 ≤ 17179869184 := by omega
  have v2 : -17179869184 ≤ g 15 ∧ g 15 ≤ 17179869184 := by omega
  have v3 : -17179869184 ≤ g 17 ∧ g 17 ≤ 17179869184 := by omega
  obtain ⟨x61, t61, u61, w61⟩ := D_21 (a := g 13) (b := m49) (c := g 17) (d := m52) (e := g 15) (f := m50) v1 (by omega) v3 (by omega) v2 (by omega)
  obtain ⟨x62, t62, u62, w62⟩ := D_21 (a := g 13) (b := m53) (c := g 15) (d := m54) (e := g 17) (f := m55) v1 (by omega) v2 (by omega) v3 (by omega)
  obtain ⟨x63, t63, u63, w63⟩ := D_12 (a := g 13) (b := m57) (c := g 15) (d := m59) (e := g 17) (f := m60) v1 (by omega) v2 (by omega) v3 (by omega)
  obtain ⟨x66, t66, u66, w66⟩ := D_11 (a := g 14) (b := g 17) (c := g 15) (d := g 16) (by omega) v3 v2 (by omega)
  obtain ⟨x68, t68, u68, w68⟩ := D_11 (a := g 12) (b := g 17) (c := g 13) (d := g 16) (by omega) v3 v1 (by omega)
  obtain ⟨x71, t71, u71, w71⟩ := D_11 (a := g 12) (b := g 15) (c := g 13) (d := g 14) (by omega) v2 v1 (by omega)
  rw [t61] at e61
  rw [t62] at e62
  rw [t63] at e63
  rw [t66] at e66
  rw [t68] at e68
  rw [t71] at e71
  clear t61 t62 t63 t66 t68 t71
  have a1 := bil v1.1 v1.2 (d := m49 - 1073741824) (S := 3100) (by omega) (by omega)
  have a2 := bil v3.1 v3.2 (d := m52 - g 14) (S := 600) (by omega) (by omega)
  have a3 := bil v2.1 v2.2 (d := m50 - g 16) (S := 600) (by omega) (by omega)
  have b1 := bil v1.1 v1.2 (d := m53 - g 16) (S := 600) (by omega) (by omega)
  have b2 := bil v2.1 v2.2 (d := m54 - 1073741824) (S := 3100) (by omega) (by omega)
  have b3 := bil v3.1 v3.2 (d := m55 - g 12) (S := 600) (by omega) (by omega)
  have c1 := bil v1.1 v1.2 (d := m57 - g 14) (S := 600) (by omega) (by omega)
  have c2 := bil v2.1 v2.2 (d := m59 - g 12) (S := 600) (by omega) (by omega)
  have c3 := bil v3.1 v3.2 (d := m60 - 1073741824) (S := 3100) (by omega) (by omega)
  have E1 : 1073741824 * (x61 - g 13 - x66) = g 13 * (m49 - 1073741824) + g 17 * (m52 - g 14) - g 15 * (m50 - g 16) + (1073741824 * x61 - (g 13 * m49 + g 17 * m52 - g 15 * m50)) - (1073741824 * x66 - (g 14 * g 17 - g 15 * g 16)) := by grind
  have E2 : 1073741824 * (x62 - g 15 + x68) = g 13 * (m53 - g 16) + g 15 * (m54 - 1073741824) - g 17 * (m55 - g 12) + (1073741824 * x62 - (g 13 * m53 + g 15 * m54 - g 17 * m55)) + (1073741824 * x68 - (g 12 * g 17 - g 13 * g 16)) := by grind
  have E3 : 1073741824 * (-x63 - g 17 - x71) = -(g 13 * (m57 - g 14)) + g 15 * (m59 - g 12) + g 17 * (m60 - 1073741824) - (1073741824 * x63 - (g 13 * m57 - g 15 * m59 - g 17 * m60)) - (1073741824 * x71 - (g 12 * g 15 - g 13 * g 14)) := by grind
  have F1 : -262144 ≤ x61 - g 13 - x66 ∧ x61 - g 13 - x66 ≤ 262144 := by
    clear E2 E3 b1 b2 b3 c1 c2 c3
    generalize g 13 * (m49 - 1073741824) = q1 at *
    generalize g 17 * (m52 - g 14) = q2 at *
    generalize g 15 * (m50 - g 16) = q3 at *
    generalize 1073741824 * x61 - (g 13 * m49 + g 17 * m52 - g 15 * m50) = q4 at *
    generalize 1073741824 * x66 - (g 14 * g 17 - g 15 * g 16) = q5 at *
    omega
  have F2 : -262144 ≤ x62 - g 15 + x68 ∧ x62 - g 15 + x68 ≤ 262144 := by
    clear E1 E3 a1 a2 a3 c1 c2 c3
    generalize g 13 * (m53 - g 16) = q1 at *
    generalize g 15 * (m54 - 1073741824) = q2 at *
    generalize g 17 * (m55 - g 12) = q3 at *
    generalize 1073741824 * x62 - (g 13 * m53 + g 15 * m54 - g 17 * m55) = q4 at *
    generalize 1073741824 * x68 - (g 12 * g 17 - g 13 * g 16) = q5 at *
    omega
  have F3 : -262144 ≤ -x63 - g 17 - x71 ∧ -x63 - g 17 - x71 ≤ 262144 := by
    clear E1 E2 a1 a2 a3 b1 b2 b3
    generalize g 13 * (m57 - g 14) = q1 at *
    generalize g 15 * (m59 - g 12) = q2 at *
    generalize g 17 * (m60 - 1073741824) = q3 at *
    generalize 1073741824 * x63 - (g 13 * m57 - g 15 * m59 - g 17 * m60) = q4 at *
    generalize 1073741824 * x71 - (g 12 * g 15 - g 13 * g 14) = q5 at *
    omega
  clear E1 E2 E3 a1 a2 a3 b1 b2 b3 c1 c2 c3 u61 w61 u62 w62 u63 w63 u66 w66 u68 w68 u71 w71
  refine ⟨told1 (by omega) (by omega) (by omega) (by omega) (by omega) (by omega) (by omega) (by omega) (by omega) (by omega) (by omega) (by omega) (by omega) (by omega), ?_⟩
  show ieq (g 84) 1 = true
  rw [e84]
  exact not0 z5
theorem walk {a b c p q r : Int} (wa : (Lit.int .i64 a).wf = true) (wb : (Lit.int .i64 b).wf = true) (wc : (Lit.int .i64 c).wf = true) (wp : (Lit.int .i64 p).wf = true) (wq : (Lit.int .i64 q).wf = true) (wr : (Lit.int .i64 r).wf = true) {W : World} {v u : Value}
    (fit : FitAs W [.agg [some .i64, some .i64, some .i64], .agg [some .i64, some .i64, some .i64]] [v, u] [.int .i64 a, .int .i64 b, .int .i64 c, .int .i64 p, .int .i64 q, .int .i64 r]) :
    Calls Try.prog 9 #[v, u] W fun e w' => e = .returned (.bool true) ∧ RowKit.Below W.heap.size W w' := by
  have v0 := wf_i64 wa
  have v1 := wf_i64 wb
  have v2 := wf_i64 wc
  have v3 := wf_i64 wp
  have v4 := wf_i64 wq
  have v5 := wf_i64 wr
  by_cases h3 : a.tmod 1048576 = 0 ∧ b.tmod 1048576 = 0 ∧ c.tmod 1048576 = 0
  · exact law_fitH (all := [.int .i64 a, .int .i64 b, .int .i64 c, .int .i64 p, .int .i64 q, .int .i64 r]) namesOk mixed (fun g => sumsS_ok g) ran0 (fun g hg he => ok0 (a := a) (b := b) (c := c) (by omega) (by omega) (by omega) (hg 0 (by decide)) (hg 1 (by decide)) (hg 2 (by decide)) h3 he) fit
  · exact law_fitH (all := [.int .i64 a, .int .i64 b, .int .i64 c, .int .i64 p, .int .i64 q, .int .i64 r]) namesOk mixed (fun g => sumsS_ok g) ran1 (fun g hg he => ok1 (a := a) (b := b) (c := c) (p := p) (q := q) (r := r) (by omega) (by omega) (by omega) (by omega) (by omega) (by omega) (hg 0 (by decide)) (hg 1 (by decide)) (hg 2 (by decide)) (hg 3 (by decide)) (hg 4 (by decide)) (hg 5 (by decide)) h3 he) fit
theorem three {us : List Value} (f : FitL [some .i64, some .i64, some .i64] us) : ∃ a b c, us = [.int .i64 a, .int .i64 b, .int .i64 c] ∧ (Lit.int .i64 a).wf = true ∧ (Lit.int .i64 b).wf = true ∧ (Lit.int .i64 c).wf = true := by
  rcases us with _ | ⟨x, _ | ⟨y, _ | ⟨z, _ | ⟨t, r⟩⟩⟩⟩
  · exact f.elim
  · exact f.2.elim
  · exact f.2.2.elim
  · obtain ⟨f1, f2, f3, _⟩ := f
    obtain ⟨a, rfl, wa⟩ := f1
    obtain ⟨b, rfl, wb⟩ := f2
    obtain ⟨c, rfl, wc⟩ := f3
    exact ⟨a, b, c, rfl, wa, wb, wc⟩
  · exact f.2.2.2.elim
theorem walkL {us ts : List Value} (f : FitL [some .i64, some .i64, some .i64] us) (k : FitL [some .i64, some .i64, some .i64] ts) {W : World} :
    Calls Try.prog 9 #[.agg ⟨us⟩, .agg ⟨ts⟩] W fun e w' => e = .returned (.bool true) ∧ RowKit.Below W.heap.size W w' := by
  obtain ⟨a, b, c, rfl, wa, wb, wc⟩ := three f
  obtain ⟨p, q, r, rfl, wp, wq, wr⟩ := three k
  exact walk wa wb wc wp wq wr ⟨[.int .i64 a, .int .i64 b, .int .i64 c], _, rfl, ⟨rfl, f⟩, [.int .i64 p, .int .i64 q, .int .i64 r], [], rfl, ⟨rfl, k⟩, rfl⟩
end Go.Proofs.Ytplojnnjkpeifaa.rotSmall
