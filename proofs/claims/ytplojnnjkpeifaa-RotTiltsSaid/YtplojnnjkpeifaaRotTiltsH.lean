/- astrolabelaw7.RotTilts: the facts, and all its cases. -/
import Derived.Test.YtplojnnjkpeifaaRotTiltsR
import Derived.Test.YtplojnnjkpeifaaTrC
namespace Go.Proofs.Ytplojnnjkpeifaa.rotTilts
open Go SX Tr
abbrev In (a : Int) : Prop := -9223372036854775808 ≤ a ∧ a ≤ 9223372036854775807
theorem lssF' (a b : Int) : cmpF .lss a b = decide (a < b) := by
  show (!ile b a) = _
  rw [ile_iff, ← decide_not]
  exact decide_eq_decide.2 (by omega)
theorem zero3 {a b c z1 z2 z3 z4 z5 : Int} (e1 : z1 = b2i (cmpF .eql a 0)) (e2 : z2 = b2i (cmpF .eql b 0)) (e3 : z3 = bif ieq z1 1 then z2 else 0) (e4 : z4 = b2i (cmpF .eql c 0)) (e5 : z5 = bif ieq z3 1 then z4 else 0) (h : ¬ (a = 0 ∧ b = 0 ∧ c = 0)) : ieq z5 1 = false := by
  rw [eqlF'] at e1 e2 e4
  by_cases h1 : a = 0 <;> by_cases h2 : b = 0 <;> by_cases h3 : c = 0 <;> simp [h1, h2, h3] at e1 e2 e4 h ⊢ <;> subst e1 e2 <;> subst e3 e4 <;> subst e5 <;> rfl
theorem no0 {a b c : Int} (h : 16777216 ≤ U 32 [a, b, c]) : ¬ (a = 0 ∧ b = 0 ∧ c = 0) := by
  rintro ⟨rfl, rfl, rfl⟩
  rw [show U 32 [0, 0, 0] = 0 by kernel_rfl] at h
  omega
/-- The length; what is missing upright. -/
noncomputable abbrev nL (a b c : Int) : Int := U 32 [a, b, c]
noncomputable abbrev wL (a b c : Int) : Int := 1073741824 - U 4 [c, U 32 [a, b, c], 30]
theorem ok9 {g : Sg} {a b c : Int} (ia : In a) (ib : In b) (ic : In c) (g0 : g 0 = a) (g1 : g 1 = b) (g2 : g 2 = c) (v0 : Wi 549755813888 a) (v1 : Wi 549755813888 b) (v2 : Wi 549755813888 c) (hn : 16777216 ≤ nL a b c) (hw : wL a b c ≤ 16) (he : EqsP g ds9) : FactsOk g facts9 ∧ CsOk g cs9 ∧ ieq (rv9.val g) 1 = true := by
  obtain ⟨e3, e4, e5, e12, e16, e17, e18, e19, e20, e21, e22, e25, e27, e28, _⟩ := eqs9 he
  rw [g0, SX.wrap_small ia.1 ia.2] at e3
  rw [g1, SX.wrap_small ib.1 ib.2] at e4
  rw [g2, SX.wrap_small ic.1 ic.2] at e5
  rw [e3, e4, e5] at e12
  have n1 : 16777216 ≤ g 12 := by rw [e12]; exact hn
  have hz : ¬ (g 3 = 0 ∧ g 4 = 0 ∧ g 5 = 0) := by rw [e3, e4, e5]; exact no0 hn
  have hcs : CsOk g cs9 := ⟨zero3 e17 e18 e19 e20 e21 hz, trivial⟩
  have k22 : g 22 = wL a b c := by rw [e22, e16, e5, e12]; unfold wL; omega
  refine ⟨told9 (by have := v0.1; omega) (by have := v0.2; omega) (by have := v1.1; omega) (by have := v1.2; omega) (by have := v2.1; omega) (by have := v2.2; omega) (by omega) (by omega), hcs, ?_⟩
  show ieq (g 28) 1 = true
  rw [e28, e27, lssF', decide_eq_false (by omega)]; rfl
theorem ok0 {g : Sg} {a b c : Int} (ia : In a) (ib : In b) (ic : In c) (g0 : g 0 = a) (g1 : g 1 = b) (g2 : g 2 = c) (v0 : Wi 549755813888 a) (v1 : Wi 549755813888 b) (v2 : Wi 549755813888 c) (hn : 16777216 ≤ nL a b c) (hw : 17 ≤ wL a b c) (hw2 : wL a b c < 1048576) (he : EqsP g ds0) : FactsOk g facts0 ∧ CsOk g cs0 ∧ ieq (rv0.val g) 1 = true := by
  obtain ⟨e3, e4, e5, e12, e14, e15, e16, e17, e18, e19, e20, e21, e22, e24, e28, e29, e31, e34, e39, e40, e43, e46, e56, e58, e61, e64, e65, e67, e68, _⟩ := eqs0 he
  rw [g0, SX.wrap_small ia.1 ia.2] at e3
  rw [g1, SX.wrap_small ib.1 ib.2] at e4
  rw [g2, SX.wrap_small ic.1 ic.2] at e5
  rw [e3, e4, e5] at e12
  have n1 : 16777216 ≤ g 12 := by rw [e12]; exact hn
  have hz : ¬ (g 3 = 0 ∧ g 4 = 0 ∧ g 5 = 0) := by rw [e3, e4, e5]; exact no0 hn
  have hcs : CsOk g cs0 := ⟨zero3 e17 e18 e19 e20 e21 hz, trivial⟩
  have k22 : g 22 = wL a b c := by rw [e22, e16, e5, e12]; unfold wL; omega
  have T := tilt_T (f0 := a) (f1 := b) (f2 := c) (n := g 12) (u0 := g 14) (u1 := g 15) (u2 := g 16) (w := g 22) (b := g 24) (L := g 28) (p0 := g 29) (p1 := g 31) (p2 := g 34) (m := g 39) (r := g 40) (x := g 43) (y := g 46) (m54 := 0) (m55 := 0) (m56 := g 56) (m57 := 0) (m58 := g 58) (m61 := g 61) (X0 := 0) (X1 := 0) (X2 := g 64)
    v0 v1 v2 e12 n1 (by rw [e14, e3]) (by rw [e15, e4]) (by rw [e16, e5]) (by omega) (by omega) (by omega) e28 e29 e31 e34 e39 e40 e43 e46 e56 e58 e61 e64
  have t := T.1
  clear T
  refine ⟨told0 (by have := v0.1; omega) (by have := v0.2; omega) (by have := v1.1; omega) (by have := v1.2; omega) (by have := v2.1; omega) (by have := v2.2; omega) (by omega) (by omega) (by omega), hcs, ?_⟩
  show ieq (g 68) 1 = true
  rw [e68, e67, lssF', decide_eq_false (by omega)]; rfl
theorem ok1 {g : Sg} {a b c : Int} (ia : In a) (ib : In b) (ic : In c) (g0 : g 0 = a) (g1 : g 1 = b) (g2 : g 2 = c) (v0 : Wi 549755813888 a) (v1 : Wi 549755813888 b) (v2 : Wi 549755813888 c) (hn : 16777216 ≤ nL a b c) (_hw : 17 ≤ wL a b c) (hw2 : 1048576 ≤ wL a b c) (he : EqsP g ds1) : FactsOk g facts1 ∧ CsOk g cs1 ∧ ieq (rv1.val g) 1 = true := by
  obtain ⟨e3, e4, e5, e12, e14, e15, e16, e17, e18, e19, e20, e21, e22, e24, e28, e29, e31, e34, e39, e40, e43, e46, e54, e55, e56, e57, e58, e61, e62, e63, e64, e71, _⟩ := eqs1 he
  rw [g0, SX.wrap_small ia.1 ia.2] at e3
  rw [g1, SX.wrap_small ib.1 ib.2] at e4
  rw [g2, SX.wrap_small ic.1 ic.2] at e5
  rw [e3, e4, e5] at e12
  have n1 : 16777216 ≤ g 12 := by rw [e12]; exact hn
  have hz : ¬ (g 3 = 0 ∧ g 4 = 0 ∧ g 5 = 0) := by rw [e3, e4, e5]; exact no0 hn
  have hcs : CsOk g cs1 := ⟨zero3 e17 e18 e19 e20 e21 hz, trivial⟩
  have k22 : g 22 = wL a b c := by rw [e22, e16, e5, e12]; unfold wL; omega
  have T := tilt_T (f0 := a) (f1 := b) (f2 := c) (n := g 12) (u0 := g 14) (u1 := g 15) (u2 := g 16) (w := g 22) (b := g 24) (L := g 28) (p0 := g 29) (p1 := g 31) (p2 := g 34) (m := g 39) (r := g 40) (x := g 43) (y := g 46) (m54 := g 54) (m55 := g 55) (m56 := g 56) (m57 := g 57) (m58 := g 58) (m61 := g 61) (X0 := g 62) (X1 := g 63) (X2 := g 64)
    v0 v1 v2 e12 n1 (by rw [e14, e3]) (by rw [e15, e4]) (by rw [e16, e5]) (by omega) (by omega) (by omega) e28 e29 e31 e34 e39 e40 e43 e46 e56 e58 e61 e64
  obtain ⟨t1, t2⟩ := T
  obtain ⟨t3, t4⟩ := t2 (by omega)
  obtain ⟨t5, t6⟩ := t4 e54 e55 e57 e62 e63
  clear t2 t4
  unfold Wi at *
  exact ⟨told1 (by omega) (by omega) (by omega) (by omega) (by omega) (by omega) (by omega) (by omega) (by omega) (by omega) (by omega) (by omega) (by omega) (by omega) (by omega), hcs, rfl⟩
set_option maxRecDepth 100000 in
theorem walk {a b c : Int} (w0 : (Lit.int .i64 a).wf = true) (w1 : (Lit.int .i64 b).wf = true) (w2 : (Lit.int .i64 c).wf = true) {W : World} {v : Value} (fit : FitAs W [.agg [some .i64, some .i64, some .i64]] [v] [.int .i64 a, .int .i64 b, .int .i64 c]) :
    Calls Try.prog 7 #[v] W fun e w' => e = .returned (.bool true) ∧ RowKit.Below W.heap.size W w' := by
  have ia : In a := by have := wf_i64 w0; exact ⟨by omega, by omega⟩
  have ib : In b := by have := wf_i64 w1; exact ⟨by omega, by omega⟩
  have ic : In c := by have := wf_i64 w2; exact ⟨by omega, by omega⟩
  have c0 : ∀ {g : Sg}, g 0 = a → g 3 = wrapF .i64 (g 0) → g 3 = a := fun h h1 => by rw [h1, h]; exact SX.wrap_small ia.1 ia.2
  have c1 : ∀ {g : Sg}, g 1 = b → g 4 = wrapF .i64 (g 1) → g 4 = b := fun h h1 => by rw [h1, h]; exact SX.wrap_small ib.1 ib.2
  have c2 : ∀ {g : Sg}, g 2 = c → g 5 = wrapF .i64 (g 2) → g 5 = c := fun h h1 => by rw [h1, h]; exact SX.wrap_small ic.1 ic.2
  by_cases h1 : a < -549755813888
  · exact law_fitH (all := [.int .i64 a, .int .i64 b, .int .i64 c]) namesOk mixed (fun g => sumsA_ok g) ran3 (fun g hg he => by
      have k0 := c0 (hg 0 (by decide)) (eqs3 he).1
      exact ⟨told3 (by omega), rfl⟩) fit
  by_cases h2 : 549755813888 < a
  · exact law_fitH (all := [.int .i64 a, .int .i64 b, .int .i64 c]) namesOk mixed (fun g => sumsA_ok g) ran4 (fun g hg he => by
      have k0 := c0 (hg 0 (by decide)) (eqs4 he).1
      exact ⟨told4 (by omega) (by omega), rfl⟩) fit
  by_cases h3 : b < -549755813888
  · exact law_fitH (all := [.int .i64 a, .int .i64 b, .int .i64 c]) namesOk mixed (fun g => sumsA_ok g) ran5 (fun g hg he => by
      have k0 := c0 (hg 0 (by decide)) (eqs5 he).1
      have k1 := c1 (hg 1 (by decide)) (eqs5 he).2.1
      exact ⟨told5 (by omega) (by omega) (by omega), rfl⟩) fit
  by_cases h4 : 549755813888 < b
  · exact law_fitH (all := [.int .i64 a, .int .i64 b, .int .i64 c]) namesOk mixed (fun g => sumsA_ok g) ran6 (fun g hg he => by
      have k0 := c0 (hg 0 (by decide)) (eqs6 he).1
      have k1 := c1 (hg 1 (by decide)) (eqs6 he).2.1
      exact ⟨told6 (by omega) (by omega) (by omega) (by omega), rfl⟩) fit
  by_cases h5 : c < -549755813888
  · exact law_fitH (all := [.int .i64 a, .int .i64 b, .int .i64 c]) namesOk mixed (fun g => sumsA_ok g) ran7 (fun g hg he => by
      have k0 := c0 (hg 0 (by decide)) (eqs7 he).1
      have k1 := c1 (hg 1 (by decide)) (eqs7 he).2.1
      have k2 := c2 (hg 2 (by decide)) (eqs7 he).2.2.1
      exact ⟨told7 (by omega) (by omega) (by omega) (by omega) (by omega), rfl⟩) fit
  by_cases h6 : 549755813888 < c
  · exact law_fitH (all := [.int .i64 a, .int .i64 b, .int .i64 c]) namesOk mixed (fun g => sumsA_ok g) ran8 (fun g hg he => by
      have k0 := c0 (hg 0 (by decide)) (eqs8 he).1
      have k1 := c1 (hg 1 (by decide)) (eqs8 he).2.1
      have k2 := c2 (hg 2 (by decide)) (eqs8 he).2.2.1
      exact ⟨told8 (by omega) (by omega) (by omega) (by omega) (by omega) (by omega), rfl⟩) fit
  by_cases h7 : nL a b c < 16777216
  · exact law_fitH (all := [.int .i64 a, .int .i64 b, .int .i64 c]) namesOk mixed (fun g => sumsA_ok g) ran2 (fun g hg he => by
      have k0 := c0 (hg 0 (by decide)) (eqs2 he).1
      have k1 := c1 (hg 1 (by decide)) (eqs2 he).2.1
      have k2 := c2 (hg 2 (by decide)) (eqs2 he).2.2.1
      have k3 : g 12 = nL a b c := by rw [(eqs2 he).2.2.2.1, k0, k1, k2]
      exact ⟨told2 (by omega) (by omega) (by omega) (by omega) (by omega) (by omega) (by omega), rfl⟩) fit
  have v0 : Wi 549755813888 a := ⟨by omega, by omega⟩
  have v1 : Wi 549755813888 b := ⟨by omega, by omega⟩
  have v2 : Wi 549755813888 c := ⟨by omega, by omega⟩
  have hn : 16777216 ≤ nL a b c := by omega
  by_cases h8 : wL a b c ≤ 16
  · exact law_fitQ (all := [.int .i64 a, .int .i64 b, .int .i64 c]) namesOk mixed (fun g => sumsA_ok g) ran9 (fun g hg he => ok9 (a := a) (b := b) (c := c) ia ib ic (hg 0 (by decide)) (hg 1 (by decide)) (hg 2 (by decide)) v0 v1 v2 hn h8 he) fit
  by_cases h9 : wL a b c < 1048576
  · exact law_fitQ (all := [.int .i64 a, .int .i64 b, .int .i64 c]) namesOk mixed (fun g => sumsA_ok g) ran0 (fun g hg he => ok0 (a := a) (b := b) (c := c) ia ib ic (hg 0 (by decide)) (hg 1 (by decide)) (hg 2 (by decide)) v0 v1 v2 hn (by omega) h9 he) fit
  · exact law_fitQ (all := [.int .i64 a, .int .i64 b, .int .i64 c]) namesOk mixed (fun g => sumsA_ok g) ran1 (fun g hg he => ok1 (a := a) (b := b) (c := c) ia ib ic (hg 0 (by decide)) (hg 1 (by decide)) (hg 2 (by decide)) v0 v1 v2 hn (by omega) (by omega) he) fit
theorem walkL {us : List Value} (f : FitL [some .i64, some .i64, some .i64] us) {W : World} :
    Calls Try.prog 7 #[.agg ⟨us⟩] W fun e w' => e = .returned (.bool true) ∧ RowKit.Below W.heap.size W w' := by
  rcases us with _ | ⟨x, _ | ⟨y, _ | ⟨z, _ | ⟨t, r⟩⟩⟩⟩
  · exact f.elim
  · exact f.2.elim
  · exact f.2.2.elim
  · obtain ⟨f1, f2, f3, _⟩ := f
    obtain ⟨a, rfl, wa⟩ := f1
    obtain ⟨b, rfl, wb⟩ := f2
    obtain ⟨c, rfl, wc⟩ := f3
    exact walk wa wb wc ⟨[.int .i64 a, .int .i64 b, .int .i64 c], [], rfl, ⟨rfl, ⟨⟨a, rfl, wa⟩, ⟨b, rfl, wb⟩, ⟨c, rfl, wc⟩, trivial⟩⟩, rfl⟩
  · exact f.2.2.2.elim
end Go.Proofs.Ytplojnnjkpeifaa.rotTilts
