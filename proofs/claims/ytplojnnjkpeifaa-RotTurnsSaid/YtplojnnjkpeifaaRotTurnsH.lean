/- astrolabelaw7.RotTurns: the facts, and all its cases. -/
import Derived.Test.YtplojnnjkpeifaaRotTurnsR
import Derived.Test.YtplojnnjkpeifaaRotTurnsR3
import Derived.Test.YtplojnnjkpeifaaTD
namespace Go.Proofs.Ytplojnnjkpeifaa.rotTurns
open Go SX Tr
abbrev In (a : Int) : Prop := -9223372036854775808 ≤ a ∧ a ≤ 9223372036854775807
/-- All four nought, as the program sees them. -/
abbrev Zq (a b c d : Int) : Prop := satv a = 0 ∧ satv b = 0 ∧ satv c = 0 ∧ satv d = 0
theorem sat_wi (a : Int) : Wi 1152921504606846976 (satv a) := ⟨satv_lo a, satv_hi a⟩
theorem cond_is {z : Int} {p q : Prop} [Decidable p] (h : ieq z 1 = decide p) (hq : p ↔ q) (v : Bool) (hv : if v then q else ¬ q) : ieq z 1 = v := by
  rw [h]
  cases v
  · exact decide_eq_false fun hp => hv (hq.1 hp)
  · exact decide_eq_true (hq.2 hv)
theorem ok0 {g : Sg} {a0 a1 a2 a3 a4 a5 a6 a7 a8 a9 a10 : Int} (i0 : In a0) (i1 : In a1) (i2 : In a2) (i3 : In a3) (i4 : In a4) (i5 : In a5) (i6 : In a6) (i7 : In a7) (i8 : In a8) (i9 : In a9) (i10 : In a10) (g0 : g 0 = a0) (g1 : g 1 = a1) (g2 : g 2 = a2) (g3 : g 3 = a3) (g4 : g 4 = a4) (g5 : g 5 = a5) (g6 : g 6 = a6) (g7 : g 7 = a7) (g8 : g 8 = a8) (g9 : g 9 = a9) (g10 : g 10 = a10) (hq : Zq a0 a1 a2 a3) (hp : Zq a4 a5 a6 a7) (v1 : Wi 1099511627776 a8) (v2 : Wi 1099511627776 a9) (v3 : Wi 1099511627776 a10) (he : EqsP g ds0) : FactsOk g facts0 ∧ CsOk g cs0 ∧ ieq (rv0.val g) 1 = true := by
  obtain ⟨e11, e12, e13, e14, e15, e16, e17, e18, e19, e20, e21, e28, e30, e33, e36, e39, e40, e41, e42, e43, e44, e45, e46, e49, e52, e55, e58, e59, e60, e61, e62, e63, e64, _⟩ := eqs0 he
  rw [g0, SX.wrap_small i0.1 i0.2] at e11
  rw [g1, SX.wrap_small i1.1 i1.2] at e12
  rw [g2, SX.wrap_small i2.1 i2.2] at e13
  rw [g3, SX.wrap_small i3.1 i3.2] at e14
  rw [g4, SX.wrap_small i4.1 i4.2] at e15
  rw [g5, SX.wrap_small i5.1 i5.2] at e16
  rw [g6, SX.wrap_small i6.1 i6.2] at e17
  rw [g7, SX.wrap_small i7.1 i7.2] at e18
  rw [g8, SX.wrap_small i8.1 i8.2] at e19
  rw [g9, SX.wrap_small i9.1 i9.2] at e20
  rw [g10, SX.wrap_small i10.1 i10.2] at e21
  have s28 : g 28 = satv a0 := by rw [e28, e11]; rfl
  have s30 : g 30 = satv a1 := by rw [e30, e12]; rfl
  have s33 : g 33 = satv a2 := by rw [e33, e13]; rfl
  have s36 : g 36 = satv a3 := by rw [e36, e14]; rfl
  have s46 : g 46 = satv a4 := by rw [e46, e15]; rfl
  have s49 : g 49 = satv a5 := by rw [e49, e16]; rfl
  have s52 : g 52 = satv a6 := by rw [e52, e17]; rfl
  have s55 : g 55 = satv a7 := by rw [e55, e18]; rfl
  have w1 : Wi 1099511627776 (g 19) := by rw [e19]; exact v1
  have w2 : Wi 1099511627776 (g 20) := by rw [e20]; exact v2
  have w3 : Wi 1099511627776 (g 21) := by rw [e21]; exact v3
  have hcs : CsOk g cs0 := ⟨cond_is (zero4 e58 e59 e60 e61 e62 e63 e64) (by rw [s46, s49, s52, s55]) true hp, cond_is (zero4 e39 e40 e41 e42 e43 e44 e45) (by rw [s28, s30, s33, s36]) true hq, trivial⟩
  unfold Wi at *
  exact ⟨told0 (by omega) (by omega) (by omega) (by omega) (by omega) (by omega), hcs, rfl⟩
theorem ok1 {g : Sg} {a0 a1 a2 a3 a4 a5 a6 a7 a8 a9 a10 : Int} (i0 : In a0) (i1 : In a1) (i2 : In a2) (i3 : In a3) (i4 : In a4) (i5 : In a5) (i6 : In a6) (i7 : In a7) (i8 : In a8) (i9 : In a9) (i10 : In a10) (g0 : g 0 = a0) (g1 : g 1 = a1) (g2 : g 2 = a2) (g3 : g 3 = a3) (g4 : g 4 = a4) (g5 : g 5 = a5) (g6 : g 6 = a6) (g7 : g 7 = a7) (g8 : g 8 = a8) (g9 : g 9 = a9) (g10 : g 10 = a10) (hq : Zq a0 a1 a2 a3) (hp : ¬ Zq a4 a5 a6 a7) (v1 : Wi 1099511627776 a8) (v2 : Wi 1099511627776 a9) (v3 : Wi 1099511627776 a10) (he : EqsP g ds1) : FactsOk g facts1 ∧ CsOk g cs1 ∧ ieq (rv1.val g) 1 = true := by
  obtain ⟨e11, e12, e13, e14, e15, e16, e17, e18, e19, e20, e21, e28, e30, e33, e36, e39, e40, e41, e42, e43, e44, e45, e46, e49, e52, e55, e58, e59, e60, e61, e62, e63, e64, _⟩ := eqs1 he
  rw [g0, SX.wrap_small i0.1 i0.2] at e11
  rw [g1, SX.wrap_small i1.1 i1.2] at e12
  rw [g2, SX.wrap_small i2.1 i2.2] at e13
  rw [g3, SX.wrap_small i3.1 i3.2] at e14
  rw [g4, SX.wrap_small i4.1 i4.2] at e15
  rw [g5, SX.wrap_small i5.1 i5.2] at e16
  rw [g6, SX.wrap_small i6.1 i6.2] at e17
  rw [g7, SX.wrap_small i7.1 i7.2] at e18
  rw [g8, SX.wrap_small i8.1 i8.2] at e19
  rw [g9, SX.wrap_small i9.1 i9.2] at e20
  rw [g10, SX.wrap_small i10.1 i10.2] at e21
  have s28 : g 28 = satv a0 := by rw [e28, e11]; rfl
  have s30 : g 30 = satv a1 := by rw [e30, e12]; rfl
  have s33 : g 33 = satv a2 := by rw [e33, e13]; rfl
  have s36 : g 36 = satv a3 := by rw [e36, e14]; rfl
  have s46 : g 46 = satv a4 := by rw [e46, e15]; rfl
  have s49 : g 49 = satv a5 := by rw [e49, e16]; rfl
  have s52 : g 52 = satv a6 := by rw [e52, e17]; rfl
  have s55 : g 55 = satv a7 := by rw [e55, e18]; rfl
  have w1 : Wi 1099511627776 (g 19) := by rw [e19]; exact v1
  have w2 : Wi 1099511627776 (g 20) := by rw [e20]; exact v2
  have w3 : Wi 1099511627776 (g 21) := by rw [e21]; exact v3
  have hcs : CsOk g cs1 := ⟨cond_is (zero4 e58 e59 e60 e61 e62 e63 e64) (by rw [s46, s49, s52, s55]) false hp, cond_is (zero4 e39 e40 e41 e42 e43 e44 e45) (by rw [s28, s30, s33, s36]) true hq, trivial⟩
  unfold Wi at *
  exact ⟨told1 (by omega) (by omega) (by omega) (by omega) (by omega) (by omega), hcs, rfl⟩
theorem ok2 {g : Sg} {a0 a1 a2 a3 a4 a5 a6 a7 a8 a9 a10 : Int} (i0 : In a0) (i1 : In a1) (i2 : In a2) (i3 : In a3) (i4 : In a4) (i5 : In a5) (i6 : In a6) (i7 : In a7) (i8 : In a8) (i9 : In a9) (i10 : In a10) (g0 : g 0 = a0) (g1 : g 1 = a1) (g2 : g 2 = a2) (g3 : g 3 = a3) (g4 : g 4 = a4) (g5 : g 5 = a5) (g6 : g 6 = a6) (g7 : g 7 = a7) (g8 : g 8 = a8) (g9 : g 9 = a9) (g10 : g 10 = a10) (hq : ¬ Zq a0 a1 a2 a3) (hp : Zq a4 a5 a6 a7) (v1 : Wi 1099511627776 a8) (v2 : Wi 1099511627776 a9) (v3 : Wi 1099511627776 a10) (he : EqsP g ds2) : FactsOk g facts2 ∧ CsOk g cs2 ∧ ieq (rv2.val g) 1 = true := by
  obtain ⟨e11, e12, e13, e14, e15, e16, e17, e18, e19, e20, e21, e28, e30, e33, e36, e39, e40, e41, e42, e43, e44, e45, e46, e49, e52, e55, e58, e61, e62, e65, e68, e71, e74, e77, e80, e83, e86, e87, e88, e89, e90, e91, e92, e97, e98, e100, e101, e102, e103, e105, e107, e108, e109, e110, e111, e112, e113, e114, e115, e116, e117, e119, e120, e123, e126, _⟩ := eqs2 he
  rw [g0, SX.wrap_small i0.1 i0.2] at e11
  rw [g1, SX.wrap_small i1.1 i1.2] at e12
  rw [g2, SX.wrap_small i2.1 i2.2] at e13
  rw [g3, SX.wrap_small i3.1 i3.2] at e14
  rw [g4, SX.wrap_small i4.1 i4.2] at e15
  rw [g5, SX.wrap_small i5.1 i5.2] at e16
  rw [g6, SX.wrap_small i6.1 i6.2] at e17
  rw [g7, SX.wrap_small i7.1 i7.2] at e18
  rw [g8, SX.wrap_small i8.1 i8.2] at e19
  rw [g9, SX.wrap_small i9.1 i9.2] at e20
  rw [g10, SX.wrap_small i10.1 i10.2] at e21
  have s28 : g 28 = satv a0 := by rw [e28, e11]; rfl
  have s30 : g 30 = satv a1 := by rw [e30, e12]; rfl
  have s33 : g 33 = satv a2 := by rw [e33, e13]; rfl
  have s36 : g 36 = satv a3 := by rw [e36, e14]; rfl
  have s74 : g 74 = satv a4 := by rw [e74, e15]; rfl
  have s77 : g 77 = satv a5 := by rw [e77, e16]; rfl
  have s80 : g 80 = satv a6 := by rw [e80, e17]; rfl
  have s83 : g 83 = satv a7 := by rw [e83, e18]; rfl
  have w1 : Wi 1099511627776 (g 19) := by rw [e19]; exact v1
  have w2 : Wi 1099511627776 (g 20) := by rw [e20]; exact v2
  have w3 : Wi 1099511627776 (g 21) := by rw [e21]; exact v3
  have hcs : CsOk g cs2 := ⟨cond_is (zero4 e86 e87 e88 e89 e90 e91 e92) (by rw [s74, s77, s80, s83]) true hp, cond_is (zero4 e39 e40 e41 e42 e43 e44 e45) (by rw [s28, s30, s33, s36]) false hq, trivial⟩
  have hU : Unt (g 62) (g 65) (g 68) (g 71) := unt_of (by rw [s28]; exact sat_wi _) (by rw [s30]; exact sat_wi _) (by rw [s33]; exact sat_wi _) (by rw [s36]; exact sat_wi _) (by rw [s28, s30, s33, s36]; exact hq) e46 e49 e52 e55 e58 e61 e62 e65 e68 e71
  have hM := mat_of hU.i e97 e98 e100 e101 e102 e103 e105 e107 e108
  obtain ⟨hk, q1, q2, q3, q4⟩ := both_T hU hM w1 w2 w3 e109 e110 e111 e112 e113 e114 e116 e117 e119
  clear hk hM hU
  unfold Wi at *
  exact ⟨told2 (by omega) (by omega) (by omega) (by omega) (by omega) (by omega) (by omega) (by omega) (by omega) (by omega) (by omega) (by omega) (by omega) (by omega), hcs, rfl⟩
theorem ok3 {g : Sg} {a0 a1 a2 a3 a4 a5 a6 a7 a8 a9 a10 : Int} (i0 : In a0) (i1 : In a1) (i2 : In a2) (i3 : In a3) (i4 : In a4) (i5 : In a5) (i6 : In a6) (i7 : In a7) (i8 : In a8) (i9 : In a9) (i10 : In a10) (g0 : g 0 = a0) (g1 : g 1 = a1) (g2 : g 2 = a2) (g3 : g 3 = a3) (g4 : g 4 = a4) (g5 : g 5 = a5) (g6 : g 6 = a6) (g7 : g 7 = a7) (g8 : g 8 = a8) (g9 : g 9 = a9) (g10 : g 10 = a10) (hq : ¬ Zq a0 a1 a2 a3) (hp : ¬ Zq a4 a5 a6 a7) (v1 : Wi 1099511627776 a8) (v2 : Wi 1099511627776 a9) (v3 : Wi 1099511627776 a10) (he : EqsP g ds3) : FactsOk g facts3 ∧ CsOk g cs3 ∧ ieq (rv3.val g) 1 = true := by
  obtain ⟨e11, e12, e13, e14, e15, e16, e17, e18, e19, e20, e21, e28, e30, e33, e36, e39, e40, e41, e42, e43, e44, e45, e46, e49, e52, e55, e58, e61, e62, e65, e68, e71, e74, e77, e80, e83, e86, e87, e88, e89, e90, e91, e92, e93, e96, e99, e102, e105, e108, e109, e112, e115, e118, e125, e126, e128, e129, e130, e131, e133, e135, e136, e137, e138, e139, e140, e141, e142, e143, e144, e145, e147, e148, e151, e154, e166, e167, e168, e169, e174, e175, e177, e178, e179, e180, e182, e184, e185, e186, e187, e188, e191, e192, e194, e195, e196, e197, e199, e201, e202, e203, e204, e205, e207, e210, e213, _⟩ := eqs3 he
  rw [g0, SX.wrap_small i0.1 i0.2] at e11
  rw [g1, SX.wrap_small i1.1 i1.2] at e12
  rw [g2, SX.wrap_small i2.1 i2.2] at e13
  rw [g3, SX.wrap_small i3.1 i3.2] at e14
  rw [g4, SX.wrap_small i4.1 i4.2] at e15
  rw [g5, SX.wrap_small i5.1 i5.2] at e16
  rw [g6, SX.wrap_small i6.1 i6.2] at e17
  rw [g7, SX.wrap_small i7.1 i7.2] at e18
  rw [g8, SX.wrap_small i8.1 i8.2] at e19
  rw [g9, SX.wrap_small i9.1 i9.2] at e20
  rw [g10, SX.wrap_small i10.1 i10.2] at e21
  have s28 : g 28 = satv a0 := by rw [e28, e11]; rfl
  have s30 : g 30 = satv a1 := by rw [e30, e12]; rfl
  have s33 : g 33 = satv a2 := by rw [e33, e13]; rfl
  have s36 : g 36 = satv a3 := by rw [e36, e14]; rfl
  have s74 : g 74 = satv a4 := by rw [e74, e15]; rfl
  have s77 : g 77 = satv a5 := by rw [e77, e16]; rfl
  have s80 : g 80 = satv a6 := by rw [e80, e17]; rfl
  have s83 : g 83 = satv a7 := by rw [e83, e18]; rfl
  have w1 : Wi 1099511627776 (g 19) := by rw [e19]; exact v1
  have w2 : Wi 1099511627776 (g 20) := by rw [e20]; exact v2
  have w3 : Wi 1099511627776 (g 21) := by rw [e21]; exact v3
  have hcs : CsOk g cs3 := ⟨cond_is (zero4 e86 e87 e88 e89 e90 e91 e92) (by rw [s74, s77, s80, s83]) false hp, cond_is (zero4 e39 e40 e41 e42 e43 e44 e45) (by rw [s28, s30, s33, s36]) false hq, trivial⟩
  have hU : Unt (g 62) (g 65) (g 68) (g 71) := unt_of (by rw [s28]; exact sat_wi _) (by rw [s30]; exact sat_wi _) (by rw [s33]; exact sat_wi _) (by rw [s36]; exact sat_wi _) (by rw [s28, s30, s33, s36]; exact hq) e46 e49 e52 e55 e58 e61 e62 e65 e68 e71
  have hP : Unt (g 109) (g 112) (g 115) (g 118) := unt_of (by rw [s74]; exact sat_wi _) (by rw [s77]; exact sat_wi _) (by rw [s80]; exact sat_wi _) (by rw [s83]; exact sat_wi _) (by rw [s74, s77, s80, s83]; exact hp) e93 e96 e99 e102 e105 e108 e109 e112 e115 e118
  have hM := mat_of hU.i e125 e126 e128 e129 e130 e131 e133 e135 e136
  have hL := mat_of hP.i e191 e192 e194 e195 e196 e197 e199 e201 e202
  obtain ⟨hk, q1, q2, q3, q4⟩ := both_T hU hM w1 w2 w3 e137 e138 e139 e140 e141 e142 e144 e145 e147
  obtain ⟨q5, q6, q7⟩ := prod_U hP hU e166 e167 e168 e169 hM hL e174 e175 e177 e178 e179 e180 e182 e184 e185 w1 w2 w3 hk e186 e187 e188 e203 e204 e205
  clear hk hM hU hL hP
  unfold Wi at *
  exact ⟨told3 (by omega) (by omega) (by omega) (by omega) (by omega) (by omega) (by omega) (by omega) (by omega) (by omega) (by omega) (by omega) (by omega) (by omega) (by omega) (by omega) (by omega) (by omega) (by omega) (by omega), hcs, rfl⟩
theorem walk {a0 a1 a2 a3 a4 a5 a6 a7 a8 a9 a10 : Int} (w0 : (Lit.int .i64 a0).wf = true) (w1 : (Lit.int .i64 a1).wf = true) (w2 : (Lit.int .i64 a2).wf = true) (w3 : (Lit.int .i64 a3).wf = true) (w4 : (Lit.int .i64 a4).wf = true) (w5 : (Lit.int .i64 a5).wf = true) (w6 : (Lit.int .i64 a6).wf = true) (w7 : (Lit.int .i64 a7).wf = true) (w8 : (Lit.int .i64 a8).wf = true) (w9 : (Lit.int .i64 a9).wf = true) (w10 : (Lit.int .i64 a10).wf = true) {W : World} {x y z : Value} (fit : FitAs W [.agg [some .i64, some .i64, some .i64, some .i64], .agg [some .i64, some .i64, some .i64, some .i64], .agg [some .i64, some .i64, some .i64]] [x, y, z] [.int .i64 a0, .int .i64 a1, .int .i64 a2, .int .i64 a3, .int .i64 a4, .int .i64 a5, .int .i64 a6, .int .i64 a7, .int .i64 a8, .int .i64 a9, .int .i64 a10]) :
    Calls Try.prog 5 #[x, y, z] W fun e w' => e = .returned (.bool true) ∧ RowKit.Below W.heap.size W w' := by
  have i0 : In a0 := by have := wf_i64 w0; exact ⟨by omega, by omega⟩
  have i1 : In a1 := by have := wf_i64 w1; exact ⟨by omega, by omega⟩
  have i2 : In a2 := by have := wf_i64 w2; exact ⟨by omega, by omega⟩
  have i3 : In a3 := by have := wf_i64 w3; exact ⟨by omega, by omega⟩
  have i4 : In a4 := by have := wf_i64 w4; exact ⟨by omega, by omega⟩
  have i5 : In a5 := by have := wf_i64 w5; exact ⟨by omega, by omega⟩
  have i6 : In a6 := by have := wf_i64 w6; exact ⟨by omega, by omega⟩
  have i7 : In a7 := by have := wf_i64 w7; exact ⟨by omega, by omega⟩
  have i8 : In a8 := by have := wf_i64 w8; exact ⟨by omega, by omega⟩
  have i9 : In a9 := by have := wf_i64 w9; exact ⟨by omega, by omega⟩
  have i10 : In a10 := by have := wf_i64 w10; exact ⟨by omega, by omega⟩
  have c8 : ∀ {g : Sg}, g 8 = a8 → g 19 = wrapF .i64 (g 8) → g 19 = a8 := fun h h1 => by rw [h1, h]; exact SX.wrap_small i8.1 i8.2
  have c9 : ∀ {g : Sg}, g 9 = a9 → g 20 = wrapF .i64 (g 9) → g 20 = a9 := fun h h1 => by rw [h1, h]; exact SX.wrap_small i9.1 i9.2
  have c10 : ∀ {g : Sg}, g 10 = a10 → g 21 = wrapF .i64 (g 10) → g 21 = a10 := fun h h1 => by rw [h1, h]; exact SX.wrap_small i10.1 i10.2
  by_cases h1 : a8 < -1099511627776
  · exact law_fitH (all := [.int .i64 a0, .int .i64 a1, .int .i64 a2, .int .i64 a3, .int .i64 a4, .int .i64 a5, .int .i64 a6, .int .i64 a7, .int .i64 a8, .int .i64 a9, .int .i64 a10]) namesOk mixed (fun g => sumsA_ok g) ran4 (fun g hg he => by
      have k8 := c8 (hg 8 (by decide)) (eqs4 he).1
      exact ⟨told4 (by omega), rfl⟩) fit
  by_cases h2 : 1099511627776 < a8
  · exact law_fitH (all := [.int .i64 a0, .int .i64 a1, .int .i64 a2, .int .i64 a3, .int .i64 a4, .int .i64 a5, .int .i64 a6, .int .i64 a7, .int .i64 a8, .int .i64 a9, .int .i64 a10]) namesOk mixed (fun g => sumsA_ok g) ran5 (fun g hg he => by
      have k8 := c8 (hg 8 (by decide)) (eqs5 he).1
      exact ⟨told5 (by omega) (by omega), rfl⟩) fit
  by_cases h3 : a9 < -1099511627776
  · exact law_fitH (all := [.int .i64 a0, .int .i64 a1, .int .i64 a2, .int .i64 a3, .int .i64 a4, .int .i64 a5, .int .i64 a6, .int .i64 a7, .int .i64 a8, .int .i64 a9, .int .i64 a10]) namesOk mixed (fun g => sumsA_ok g) ran6 (fun g hg he => by
      have k8 := c8 (hg 8 (by decide)) (eqs6 he).1
      have k9 := c9 (hg 9 (by decide)) (eqs6 he).2.1
      exact ⟨told6 (by omega) (by omega) (by omega), rfl⟩) fit
  by_cases h4 : 1099511627776 < a9
  · exact law_fitH (all := [.int .i64 a0, .int .i64 a1, .int .i64 a2, .int .i64 a3, .int .i64 a4, .int .i64 a5, .int .i64 a6, .int .i64 a7, .int .i64 a8, .int .i64 a9, .int .i64 a10]) namesOk mixed (fun g => sumsA_ok g) ran7 (fun g hg he => by
      have k8 := c8 (hg 8 (by decide)) (eqs7 he).1
      have k9 := c9 (hg 9 (by decide)) (eqs7 he).2.1
      exact ⟨told7 (by omega) (by omega) (by omega) (by omega), rfl⟩) fit
  by_cases h5 : a10 < -1099511627776
  · exact law_fitH (all := [.int .i64 a0, .int .i64 a1, .int .i64 a2, .int .i64 a3, .int .i64 a4, .int .i64 a5, .int .i64 a6, .int .i64 a7, .int .i64 a8, .int .i64 a9, .int .i64 a10]) namesOk mixed (fun g => sumsA_ok g) ran8 (fun g hg he => by
      have k8 := c8 (hg 8 (by decide)) (eqs8 he).1
      have k9 := c9 (hg 9 (by decide)) (eqs8 he).2.1
      have k10 := c10 (hg 10 (by decide)) (eqs8 he).2.2.1
      exact ⟨told8 (by omega) (by omega) (by omega) (by omega) (by omega), rfl⟩) fit
  by_cases h6 : 1099511627776 < a10
  · exact law_fitH (all := [.int .i64 a0, .int .i64 a1, .int .i64 a2, .int .i64 a3, .int .i64 a4, .int .i64 a5, .int .i64 a6, .int .i64 a7, .int .i64 a8, .int .i64 a9, .int .i64 a10]) namesOk mixed (fun g => sumsA_ok g) ran9 (fun g hg he => by
      have k8 := c8 (hg 8 (by decide)) (eqs9 he).1
      have k9 := c9 (hg 9 (by decide)) (eqs9 he).2.1
      have k10 := c10 (hg 10 (by decide)) (eqs9 he).2.2.1
      exact ⟨told9 (by omega) (by omega) (by omega) (by omega) (by omega) (by omega), rfl⟩) fit
  have v1 : Wi 1099511627776 a8 := ⟨by omega, by omega⟩
  have v2 : Wi 1099511627776 a9 := ⟨by omega, by omega⟩
  have v3 : Wi 1099511627776 a10 := ⟨by omega, by omega⟩
  by_cases hq : Zq a0 a1 a2 a3
  · by_cases hp : Zq a4 a5 a6 a7
    · exact law_fitQ (all := [.int .i64 a0, .int .i64 a1, .int .i64 a2, .int .i64 a3, .int .i64 a4, .int .i64 a5, .int .i64 a6, .int .i64 a7, .int .i64 a8, .int .i64 a9, .int .i64 a10]) namesOk mixed (fun g => sumsA_ok g) ran0 (fun g hg he => ok0 (a0 := a0) (a1 := a1) (a2 := a2) (a3 := a3) (a4 := a4) (a5 := a5) (a6 := a6) (a7 := a7) (a8 := a8) (a9 := a9) (a10 := a10) i0 i1 i2 i3 i4 i5 i6 i7 i8 i9 i10 (hg 0 (by decide)) (hg 1 (by decide)) (hg 2 (by decide)) (hg 3 (by decide)) (hg 4 (by decide)) (hg 5 (by decide)) (hg 6 (by decide)) (hg 7 (by decide)) (hg 8 (by decide)) (hg 9 (by decide)) (hg 10 (by decide)) hq hp v1 v2 v3 he) fit
    · exact law_fitQ (all := [.int .i64 a0, .int .i64 a1, .int .i64 a2, .int .i64 a3, .int .i64 a4, .int .i64 a5, .int .i64 a6, .int .i64 a7, .int .i64 a8, .int .i64 a9, .int .i64 a10]) namesOk mixed (fun g => sumsA_ok g) ran1 (fun g hg he => ok1 (a0 := a0) (a1 := a1) (a2 := a2) (a3 := a3) (a4 := a4) (a5 := a5) (a6 := a6) (a7 := a7) (a8 := a8) (a9 := a9) (a10 := a10) i0 i1 i2 i3 i4 i5 i6 i7 i8 i9 i10 (hg 0 (by decide)) (hg 1 (by decide)) (hg 2 (by decide)) (hg 3 (by decide)) (hg 4 (by decide)) (hg 5 (by decide)) (hg 6 (by decide)) (hg 7 (by decide)) (hg 8 (by decide)) (hg 9 (by decide)) (hg 10 (by decide)) hq hp v1 v2 v3 he) fit
  · by_cases hp : Zq a4 a5 a6 a7
    · exact law_fitQ (all := [.int .i64 a0, .int .i64 a1, .int .i64 a2, .int .i64 a3, .int .i64 a4, .int .i64 a5, .int .i64 a6, .int .i64 a7, .int .i64 a8, .int .i64 a9, .int .i64 a10]) namesOk mixed (fun g => sumsA_ok g) ran2 (fun g hg he => ok2 (a0 := a0) (a1 := a1) (a2 := a2) (a3 := a3) (a4 := a4) (a5 := a5) (a6 := a6) (a7 := a7) (a8 := a8) (a9 := a9) (a10 := a10) i0 i1 i2 i3 i4 i5 i6 i7 i8 i9 i10 (hg 0 (by decide)) (hg 1 (by decide)) (hg 2 (by decide)) (hg 3 (by decide)) (hg 4 (by decide)) (hg 5 (by decide)) (hg 6 (by decide)) (hg 7 (by decide)) (hg 8 (by decide)) (hg 9 (by decide)) (hg 10 (by decide)) hq hp v1 v2 v3 he) fit
    · exact law_fitQ (all := [.int .i64 a0, .int .i64 a1, .int .i64 a2, .int .i64 a3, .int .i64 a4, .int .i64 a5, .int .i64 a6, .int .i64 a7, .int .i64 a8, .int .i64 a9, .int .i64 a10]) namesOk mixed (fun g => sumsA_ok g) ran3 (fun g hg he => ok3 (a0 := a0) (a1 := a1) (a2 := a2) (a3 := a3) (a4 := a4) (a5 := a5) (a6 := a6) (a7 := a7) (a8 := a8) (a9 := a9) (a10 := a10) i0 i1 i2 i3 i4 i5 i6 i7 i8 i9 i10 (hg 0 (by decide)) (hg 1 (by decide)) (hg 2 (by decide)) (hg 3 (by decide)) (hg 4 (by decide)) (hg 5 (by decide)) (hg 6 (by decide)) (hg 7 (by decide)) (hg 8 (by decide)) (hg 9 (by decide)) (hg 10 (by decide)) hq hp v1 v2 v3 he) fit
theorem three {us : List Value} (f : FitL [some .i64, some .i64, some .i64] us) : ∃ a b c, us = [.int .i64 a, .int .i64 b, .int .i64 c] ∧ (Lit.int .i64 a).wf = true ∧ (Lit.int .i64 b).wf = true ∧ (Lit.int .i64 c).wf = true := by
  rcases us with _ | ⟨x, _ | ⟨y, _ | ⟨z, _ | ⟨t, r⟩⟩⟩⟩
  · exact f.elim
  · exact f.2.elim
  · exact f.2.2.elim
  · obtain ⟨f1, f2, f3, _⟩ := f
    obtain ⟨a, rfl, wa⟩ := f1
    obtain ⟨b, rfl, wb⟩ := f2
    obtain ⟨c, rfl, wc⟩ := f3
    exact ⟨a, b, c, rfl, wa, wb, wc⟩
  · exact f.2.2.2.elim
theorem four {us : List Value} (f : FitL [some .i64, some .i64, some .i64, some .i64] us) : ∃ a b c d, us = [.int .i64 a, .int .i64 b, .int .i64 c, .int .i64 d] ∧ (Lit.int .i64 a).wf = true ∧ (Lit.int .i64 b).wf = true ∧ (Lit.int .i64 c).wf = true ∧ (Lit.int .i64 d).wf = true := by
  rcases us with _ | ⟨x, _ | ⟨y, _ | ⟨z, _ | ⟨u, _ | ⟨t, r⟩⟩⟩⟩⟩
  · exact f.elim
  · exact f.2.elim
  · exact f.2.2.elim
  · exact f.2.2.2.elim
  · obtain ⟨f1, f2, f3, f4, _⟩ := f
    obtain ⟨a, rfl, wa⟩ := f1
    obtain ⟨b, rfl, wb⟩ := f2
    obtain ⟨c, rfl, wc⟩ := f3
    obtain ⟨d, rfl, wd⟩ := f4
    exact ⟨a, b, c, d, rfl, wa, wb, wc, wd⟩
  · exact f.2.2.2.2.elim
theorem walkL {us ts vs : List Value} (f : FitL [some .i64, some .i64, some .i64, some .i64] us) (k : FitL [some .i64, some .i64, some .i64, some .i64] ts) (h : FitL [some .i64, some .i64, some .i64] vs) {W : World} :
    Calls Try.prog 5 #[.agg ⟨us⟩, .agg ⟨ts⟩, .agg ⟨vs⟩] W fun e w' => e = .returned (.bool true) ∧ RowKit.Below W.heap.size W w' := by
  obtain ⟨a0, a1, a2, a3, rfl, w0, w1, w2, w3⟩ := four f
  obtain ⟨a4, a5, a6, a7, rfl, w4, w5, w6, w7⟩ := four k
  obtain ⟨a8, a9, a10, rfl, w8, w9, w10⟩ := three h
  exact walk w0 w1 w2 w3 w4 w5 w6 w7 w8 w9 w10 ⟨[.int .i64 a0, .int .i64 a1, .int .i64 a2, .int .i64 a3], _, rfl, ⟨rfl, f⟩, [.int .i64 a4, .int .i64 a5, .int .i64 a6, .int .i64 a7], _, rfl, ⟨rfl, k⟩, [.int .i64 a8, .int .i64 a9, .int .i64 a10], [], rfl, ⟨rfl, h⟩, rfl⟩
end Go.Proofs.Ytplojnnjkpeifaa.rotTurns
