/- RootHolds over symbols. -/
import Derived.Test.YtahedampmjfoeaaRootHoldsL
import Derived.Test.YtahedampmjfoeaaRootM
namespace Go.Proofs.Ytahedampmjfoeaa.rootHolds
open Go SX
theorem hyp_run {X Y x10 p s x20 q z r k : Int} (x1 : -1152921504606846976 ≤ X) (x2 : X ≤ 1152921504606846976) (y1 : -1152921504606846976 ≤ Y) (y2 : Y ≤ 1152921504606846976)
    (e10 : x10 = satv X) (e13 : p = x10 * x10) (e16 : s = U 24 [0, p]) (e20 : x20 = satv Y) (e23 : q = x20 * x20) (e26 : z = U 24 [s, q]) (e30 : r = U 26 [z]) (e31 : k = U 27 [z]) :
    p = X * X ∧ q = Y * Y ∧ r = rootN (X * X + Y * Y).toNat ∧ k = 1 := by
  rw [satv_id x1 x2] at e10
  rw [satv_id y1 y2] at e20
  rw [e10] at e13
  rw [e20] at e23
  obtain ⟨p1, p2⟩ := sq_bd x1 x2
  obtain ⟨q1, q2⟩ := sq_bd y1 y2
  rw [e13, wsum1 (by omega) (by omega)] at e16
  rw [e16, e23, wsum2 (by omega) (by omega) (by omega) (by omega)] at e26
  obtain ⟨r1, r2⟩ := root_in (z := z) (by omega) (by omega)
  rw [r1, e26] at e30
  exact ⟨e13, e23, e30, e31.trans r2⟩
theorem ok_no {g : Int} {k : Int} (h : g = b2i (!ieq k 1)) (hk : k = 1) : ieq g 1 = false := by subst h hk; rfl
theorem is_geq {g a b : Int} (h : g = b2i (cmpF .geq a b)) (hk : b ≤ a) : ieq g 1 = true := by subst h; rw [ieq_b2i]; simp only [cmpF, ile_iff]; simpa using hk
theorem is_leq {g a b : Int} (h : g = b2i (cmpF .leq a b)) (hk : a ≤ b) : ieq g 1 = true := by subst h; rw [ieq_b2i]; simp only [cmpF, ile_iff]; simpa using hk
theorem is_eql {g a b : Int} (h : g = b2i (cmpF .eql a b)) (hk : a = b) : ieq g 1 = true := by subst h; rw [ieq_b2i]; simp only [cmpF, ieq_iff]; simpa using hk
theorem no_geq {g a b : Int} (h : g = b2i (cmpF .geq a b)) (hk : a < b) : ieq g 1 = false := by subst h; rw [ieq_b2i]; simp only [cmpF, ile_iff]; simp; omega
theorem no_leq {g a b : Int} (h : g = b2i (cmpF .leq a b)) (hk : b < a) : ieq g 1 = false := by subst h; rw [ieq_b2i]; simp only [cmpF, ile_iff]; simp; omega
theorem no_lss {g a b : Int} (h : g = b2i (cmpF .lss a b)) (hk : b ≤ a) : ieq g 1 = false := by subst h; rw [ieq_b2i]; simp only [cmpF, ile_iff]; simp; omega
theorem no_gtr {g a b : Int} (h : g = b2i (cmpF .gtr a b)) (hk : a ≤ b) : ieq g 1 = false := by subst h; rw [ieq_b2i]; simp only [cmpF, ile_iff]; simp; omega
theorem neg_run {X n m : Int} (x1 : -1152921504606846976 ≤ X) (x2 : X ≤ 1152921504606846976) (e : n = wrapF .i64 (0 - X)) (e' : m = satv n) : n = -X ∧ m = satv (-X) := by
  have : n = -X := by rw [e, wrapF_eq, IntKind.wrap_i64]; omega
  subst this
  exact ⟨rfl, e'⟩
theorem satv_nn {v : Int} (h : 0 ≤ v) : 0 ≤ satv v := by unfold satv; (repeat' split) <;> omega
theorem rnd_nn {v : Int} (h : 0 ≤ v) (s : Nat) : 0 ≤ rnd v s := by
  unfold rnd withSign
  rw [decide_eq_false (by omega)]
  simp
/-- The root of a square is near the number. -/
theorem near_root {a b r : Int} (h0 : 0 ≤ a) (h1 : a ≤ 35184372088832) (hb : b = satv (rnd (satv a * satv a) 30)) (hr : r = rootN (b * 1073741824).toNat) : 0 ≤ b ∧ b ≤ 1152921504606846976 ∧ r - a ≤ 32768 ∧ -32768 ≤ r - a := by
  rw [satv_id (a := a) (by omega) (by omega)] at hb
  have hsq : 0 ≤ a * a ∧ a * a ≤ 1237940039285380274899124224 := by
    have := sq_bd (a := a) (m := 35184372088832) (by omega) h1
    omega
  have hrnd : rnd (a * a) 30 * 1073741824 ≤ a * a + 536870912 ∧ a * a - 536870912 ≤ rnd (a * a) 30 * 1073741824 := by
    unfold rnd withSign rq halfOf
    rw [decide_eq_false (by omega)]
    simp
    omega
  have hb' : b = rnd (a * a) 30 := by rw [hb, satv_id (by omega) (by omega)]
  rw [← hb'] at hrnd
  have hn : (((b * 1073741824).toNat : Nat) : Int) = b * 1073741824 := by omega
  obtain ⟨s1, s2⟩ := root_sides2 (b * 1073741824).toNat
  rw [hn, ← hr] at s1 s2
  have hr0 : 0 ≤ r := by omega
  refine ⟨by omega, by omega, ?_, ?_⟩
  · apply Classical.byContradiction
    intro hc
    have h2 : (a + 32768) * (a + 32768) ≤ (r - 1) * (r - 1) := Int.mul_le_mul (by omega) (by omega) (by omega) (by omega)
    have h3 : (a + 32768) * (a + 32768) = a * a + 65536 * a + 1073741824 := by grind
    have h4 : (r - 1) * (r - 1) = r * r - 2 * r + 1 := by grind
    have h5 := s1 (by omega)
    omega
  · apply Classical.byContradiction
    intro hc
    have h2 : (r + 1) * (r + 1) ≤ (a - 32768) * (a - 32768) := Int.mul_le_mul (by omega) (by omega) (by omega) (by omega)
    have h3 : (a - 32768) * (a - 32768) = a * a - 65536 * a + 1073741824 := by grind
    have h4 : (r + 1) * (r + 1) = r * r + 2 * r + 1 := by grind
    omega
theorem walk (a : Int) (wa : (Lit.int .i64 a).wf = true) (x : Int) (wx : (Lit.int .i64 x).wf = true) (y : Int) (wy : (Lit.int .i64 y).wf = true) (w : World) :
    Calls Try.prog 8 #[.int .i64 a, .int .i64 x, .int .i64 y] w fun e w' => e = .returned (.bool true) ∧ RowKit.Below w.heap.size w w' := by
  have ia : inK .i64 a := inK_i64.2 (wf_i64 wa)
  have ix : inK .i64 x := inK_i64.2 (wf_i64 wx)
  have iy : inK .i64 y := inK_i64.2 (wf_i64 wy)
  have hv : ∀ g : Sg, (∀ i, i < 3 → g i = (fun i => if i = 0 then a else if i = 1 then x else y) i) → VL g (fun _ => none) [.w (.c (.i .i64 (.x 0))), .w (.c (.i .i64 (.x 1))), .w (.c (.i .i64 (.x 2)))] [.int .i64 a, .int .i64 x, .int .i64 y] := by
    intro g hg
    have g0 : g 0 = a := hg 0 (by decide)
    have g1 : g 1 = x := hg 1 (by decide)
    have g2 : g 2 = y := hg 2 (by decide)
    refine ⟨?_, ?_, ?_, trivial⟩
    · have := mk_i (g := g) (fun _ => none) (k := .i64) (a := .x 0) (by show inK .i64 (g 0); rw [g0]; exact ia)
      have e : (A.x 0).val g = a := g0
      rw [e] at this; exact this
    · have := mk_i (g := g) (fun _ => none) (k := .i64) (a := .x 1) (by show inK .i64 (g 1); rw [g1]; exact ix)
      have e : (A.x 1).val g = x := g1
      rw [e] at this; exact this
    · have := mk_i (g := g) (fun _ => none) (k := .i64) (a := .x 2) (by show inK .i64 (g 2); rw [g2]; exact iy)
      have e : (A.x 2).val g = y := g2
      rw [e] at this; exact this
  by_cases h0 : 0 ≤ a
  · by_cases h1 : a ≤ 35184372088832
    · refine sym_true namesOk mixed sums_ok mid_ran mid_wf _ (fun g hg hd => ?_) _ hv w
      have g0 : g 0 = a := hg 0 (by decide)
      obtain ⟨e3, e4, e5, e6, e7, e8, e10, e13, e14, e15, e16, e17, e18, e19, e21, e22, e24, e25, e27, e30, e31, e34, e35, e37, e40, e41, e44, e45, e46, e47, e48, e50, e51, e52, e53, e54, e55, e57, e59, e60, e64, e65, e68, e69, e70, e71, e72, e74, e75, e76, e77, e79, e82, e83, e87, e88, e91, e92, e93, e94, e95, e97⟩ := mid_eqs hd
      clear e6 e8 e14 e19 e22 e25 e31 e35 e41 e48 e55 e60 e65 e72 e77 e83 e88 e95
      have x1 := satv_lo (g 1)
      have x2 := satv_hi (g 1)
      have y1 := satv_lo (g 2)
      have y2 := satv_hi (g 2)
      rw [← e18] at x1 x2
      rw [← e21] at y1 y2
      obtain ⟨p1, q1, r1, k1⟩ := hyp_run x1 x2 y1 y2 e24 e27 e30 e34 e37 e40 e44 e45
      obtain ⟨_, _, r2, k2⟩ := hyp_run y1 y2 x1 x2 e34 e37 e59 e24 e27 e64 e68 e69
      obtain ⟨n1, n2⟩ := neg_run x1 x2 e75 e76
      obtain ⟨_, _, r3, k3⟩ := hyp_run (X := -g 18) (by omega) (by omega) y1 y2 n2 e79 e82 e34 e37 e87 e91 e92
      obtain ⟨f1, f2, f3⟩ := hyp_facts x1 x2 y1 y2
      rw [← r1, ← e47, ← e50] at f1
      rw [← r1, ← e47, ← e52] at f2
      rw [← r1, ← e47, ← e50, ← e52] at f3
      have f3 : g 47 ≤ g 54 := by rw [e54]; exact f3
      have r2' : g 68 = g 44 := by rw [r2, r1, Int.add_comm]
      have r3' : g 91 = g 44 := by rw [r3, r1, Int.neg_mul_neg]
      rw [g0] at e3 e4 e5 e15
      have hb0 := satv_id (a := 0) (by decide) (by decide)
      have hclamp : g 7 = g 5 := by
        rw [e7, e5]
        have hz : 0 ≤ rnd (satv a * satv a) 30 := rnd_nn (by rw [satv_id (a := a) (by omega) (by omega)]; exact (sq_bd (a := a) (m := 35184372088832) (by omega) h1).1) 30
        have h5 := satv_hi (rnd (satv a * satv a) 30)
        have h6 : 0 ≤ satv (rnd (satv a * satv a) 30) := satv_nn hz
        unfold clampv
        rw [if_neg (by decide), if_neg (by omega), if_neg (by omega)]
      rw [hclamp] at e10
      have near := near_root (r := rootN (g 5 * 1073741824).toNat) h0 h1 e5 rfl
      obtain ⟨z1, _⟩ := root_in (z := g 10) (by rw [e10]; omega) (by rw [e10]; omega)
      have e13 := e13.trans z1
      rw [e10] at e13
      rw [← e13] at near
      have hd15 : g 15 = g 13 - a := by rw [e15, wrapF_eq, IntKind.wrap_i64]; omega
      refine ⟨?_, is_eql e97 (by rw [e94, e47, r3'])⟩
      simp only [midS, List.forall_mem_cons]
      exact ⟨ok_no e93 k3, is_eql e74 (by rw [e71, e47, r2']), ok_no e70 k2, is_leq e57 f3, is_geq e53 f2, is_geq e51 f1, ok_no e46 k1, no_gtr e17 (by omega), no_lss e16 (by omega), is_leq e4 h1, is_geq e3 h0, fun _ h => by cases h⟩
    · refine sym_true namesOk mixed sums_ok hi_ran hi_wf _ (fun g hg hd => ?_) _ hv w
      have g0 : g 0 = a := hg 0 (by decide)
      obtain ⟨e3, e4, e5, e6, e7, e8, e10, e11, e13, e16, e17, e20, e21, e23, e26, e27, e30, e31, e32, e33, e34, e36, e37, e38, e39, e40, e41, e43, e45, e46, e50, e51, e54, e55, e56, e57, e58, e60, e61, e62, e63, e65, e68, e69, e73, e74, e77, e78, e79, e80, e81, e83⟩ := hi_eqs hd
      have x1 := satv_lo (g 1)
      have x2 := satv_hi (g 1)
      have y1 := satv_lo (g 2)
      have y2 := satv_hi (g 2)
      rw [← e5] at x1 x2
      rw [← e7] at y1 y2
      obtain ⟨p1, q1, r1, k1⟩ := hyp_run x1 x2 y1 y2 e10 e13 e16 e20 e23 e26 e30 e31
      obtain ⟨_, _, r2, k2⟩ := hyp_run y1 y2 x1 x2 e20 e23 e45 e10 e13 e50 e54 e55
      obtain ⟨n1, n2⟩ := neg_run x1 x2 e61 e62
      obtain ⟨_, _, r3, k3⟩ := hyp_run (X := -g 5) (by omega) (by omega) y1 y2 n2 e65 e68 e20 e23 e73 e77 e78
      obtain ⟨f1, f2, f3⟩ := hyp_facts x1 x2 y1 y2
      rw [← r1, ← e33, ← e36] at f1
      rw [← r1, ← e33, ← e38] at f2
      rw [← r1, ← e33, ← e36, ← e38] at f3
      have f3 : g 33 ≤ g 40 := by rw [e40]; exact f3
      have r2' : g 54 = g 30 := by rw [r2, r1, Int.add_comm]
      have r3' : g 77 = g 30 := by rw [r3, r1, Int.neg_mul_neg]
      rw [g0] at e3 e4
      refine ⟨?_, is_eql e83 (by rw [e80, e33, r3'])⟩
      simp only [hiS, List.forall_mem_cons]
      exact ⟨ok_no e79 k3, is_eql e60 (by rw [e57, e33, r2']), ok_no e56 k2, is_leq e43 f3, is_geq e39 f2, is_geq e37 f1, ok_no e32 k1, no_leq e4 (by omega), is_geq e3 h0, fun _ h => by cases h⟩
  · refine sym_true namesOk mixed sums_ok neg_ran neg_wf _ (fun g hg hd => ?_) _ hv w
    have g0 : g 0 = a := hg 0 (by decide)
    obtain ⟨e3, e4, e5, e6, e7, e9, e10, e12, e15, e16, e19, e20, e22, e25, e26, e29, e30, e31, e32, e33, e35, e36, e37, e38, e39, e40, e42, e44, e45, e49, e50, e53, e54, e55, e56, e57, e59, e60, e61, e62, e64, e67, e68, e72, e73, e76, e77, e78, e79, e80, e82⟩ := neg_eqs hd
    have x1 := satv_lo (g 1)
    have x2 := satv_hi (g 1)
    have y1 := satv_lo (g 2)
    have y2 := satv_hi (g 2)
    rw [← e4] at x1 x2
    rw [← e6] at y1 y2
    obtain ⟨p1, q1, r1, k1⟩ := hyp_run x1 x2 y1 y2 e9 e12 e15 e19 e22 e25 e29 e30
    obtain ⟨_, _, r2, k2⟩ := hyp_run y1 y2 x1 x2 e19 e22 e44 e9 e12 e49 e53 e54
    obtain ⟨n1, n2⟩ := neg_run x1 x2 e60 e61
    obtain ⟨_, _, r3, k3⟩ := hyp_run (X := -g 4) (by omega) (by omega) y1 y2 n2 e64 e67 e19 e22 e72 e76 e77
    obtain ⟨f1, f2, f3⟩ := hyp_facts x1 x2 y1 y2
    rw [← r1, ← e32, ← e35] at f1
    rw [← r1, ← e32, ← e37] at f2
    rw [← r1, ← e32, ← e35, ← e37] at f3
    have f3 : g 32 ≤ g 39 := by rw [e39]; exact f3
    have r2' : g 53 = g 29 := by rw [r2, r1, Int.add_comm]
    have r3' : g 76 = g 29 := by rw [r3, r1, Int.neg_mul_neg]
    rw [g0] at e3
    refine ⟨?_, is_eql e82 (by rw [e79, e32, r3'])⟩
    simp only [negS, List.forall_mem_cons]
    exact ⟨ok_no e78 k3, is_eql e59 (by rw [e56, e32, r2']), ok_no e55 k2, is_leq e42 f3, is_geq e38 f2, is_geq e36 f1, ok_no e31 k1, no_geq e3 (by omega), fun _ h => by cases h⟩
end Go.Proofs.Ytahedampmjfoeaa.rootHolds
