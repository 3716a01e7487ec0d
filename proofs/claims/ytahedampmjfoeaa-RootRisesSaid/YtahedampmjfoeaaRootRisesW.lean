/- RootRises over symbols. -/
import Derived.Test.YtahedampmjfoeaaRootRisesL
import Derived.Test.YtahedampmjfoeaaRootM
namespace Go.Proofs.Ytahedampmjfoeaa.rootRises
open Go SX
theorem ok_no {g : Int} {k : Int} (h : g = b2i (!ieq k 1)) (hk : ieq k 1 = true) : ieq g 1 = false := by subst h; rw [ieq_b2i, hk]; rfl
theorem ok_yes {g : Int} {k : Int} (h : g = b2i (!ieq k 1)) (hk : ieq k 1 = false) : ieq g 1 = true := by subst h; rw [ieq_b2i, hk]; rfl
theorem is_geq {g a b : Int} (h : g = b2i (cmpF .geq a b)) (hk : b ≤ a) : ieq g 1 = true := by subst h; rw [ieq_b2i]; simp only [cmpF, ile_iff]; simpa using hk
theorem is_leq {g a b : Int} (h : g = b2i (cmpF .leq a b)) (hk : a ≤ b) : ieq g 1 = true := by subst h; rw [ieq_b2i]; simp only [cmpF, ile_iff]; simpa using hk
theorem is_lss {g a b : Int} (h : g = b2i (cmpF .lss a b)) (hk : a < b) : ieq g 1 = true := by subst h; rw [ieq_b2i]; simp only [cmpF, ile_iff]; simp; omega
theorem is_gtr {g a b : Int} (h : g = b2i (cmpF .gtr a b)) (hk : b < a) : ieq g 1 = true := by subst h; rw [ieq_b2i]; simp only [cmpF, ile_iff]; simp; omega
theorem no_geq {g a b : Int} (h : g = b2i (cmpF .geq a b)) (hk : a < b) : ieq g 1 = false := by subst h; rw [ieq_b2i]; simp only [cmpF, ile_iff]; simp; omega
theorem no_lss {g a b : Int} (h : g = b2i (cmpF .lss a b)) (hk : b ≤ a) : ieq g 1 = false := by subst h; rw [ieq_b2i]; simp only [cmpF, ile_iff]; simp; omega
theorem no_gtr {g a b : Int} (h : g = b2i (cmpF .gtr a b)) (hk : a ≤ b) : ieq g 1 = false := by subst h; rw [ieq_b2i]; simp only [cmpF, ile_iff]; simp; omega
theorem root_mono {m n : Nat} (h : m ≤ n) : (rootN m : Int) ≤ rootN n := by
  obtain ⟨a1, _⟩ := root_sides2 m
  obtain ⟨_, b2⟩ := root_sides2 n
  have h0 : (0 : Int) ≤ rootN n := Int.natCast_nonneg _
  generalize (rootN m : Int) = x at *
  generalize (rootN n : Int) = y at *
  apply Classical.byContradiction
  intro hc
  have h1 : y + 1 ≤ x := by omega
  have h2 := a1 (by omega)
  have h3 : y * (y + 1) ≤ (x - 1) * x := Int.mul_le_mul (by omega) h1 (by omega) (by omega)
  have h4 : (x - 1) * x = x * x - x := by grind
  have h5 : y * (y + 1) = y * y + y := by grind
  omega
theorem root_rises {a b x y p q r s : Int} (h0 : 0 ≤ a) (h1 : a ≤ b) (ex : x = clampv a 0 1152921504606846976) (ep : p = x * 1073741824) (er : r = U 26 [p])
    (ey : y = clampv b 0 1152921504606846976) (eq0 : q = y * 1073741824) (es : s = U 26 [q]) : r ≤ s := by
  have hx : 0 ≤ x ∧ x ≤ y ∧ y ≤ 1152921504606846976 := by
    subst ex ey; unfold clampv; (repeat' split) <;> omega
  obtain ⟨r1, _⟩ := root_in (z := p) (by omega) (by omega)
  obtain ⟨s1, _⟩ := root_in (z := q) (by omega) (by omega)
  rw [er, es, r1, s1]
  exact root_mono (by omega)
/-- One divided by D, rounded, in the format of 30 bits. -/
theorem recip {D r h : Int} (h1 : 1048576 ≤ D) (h2 : D ≤ 1099511627776) (er : r = divv (satv 1073741824 * 2 ^ 30) (satv D)) (eh : h = U 5 [1073741824, D, 30]) :
    1048576 ≤ r ∧ r ≤ 1099511627776 ∧ 2 * (r * D) ≤ 2305843009213693952 + D ∧ 2305843009213693952 - D ≤ 2 * (r * D) ∧ ieq h 1 = false := by
  have e1 : satv 1073741824 * 2 ^ 30 = 1152921504606846976 := by rw [satv_id (by decide) (by decide)]; rfl
  have eD : satv D = D := satv_id (by omega) (by omega)
  have hz : divZ 1152921504606846976 D = (dq 1152921504606846976 D.natAbs : Nat) := by
    unfold divZ withSign
    rw [decide_eq_false (show ¬ wh 1152921504606846976 < 0 by decide), decide_eq_false (by omega)]
    rfl
  obtain ⟨n, rfl⟩ := Int.eq_ofNat_of_zero_le (show 0 ≤ D by omega)
  rw [e1, eD] at er
  unfold divv at er
  rw [if_neg (by omega), hz] at er
  simp only [Int.natAbs_natCast] at er hz
  have hdm := Nat.div_add_mod 1152921504606846976 n
  have hml := Nat.mod_lt 1152921504606846976 (show 0 < n by omega)
  have key : 2 * (dq 1152921504606846976 n * n) ≤ 2305843009213693952 + n ∧ 2305843009213693952 ≤ 2 * (dq 1152921504606846976 n * n) + n := by
    unfold dq
    generalize 1152921504606846976 / n = q at *
    generalize 1152921504606846976 % n = m at *
    have hqn : q * n = n * q := Nat.mul_comm _ _
    split
    · have : (q + 1) * n = q * n + n := by rw [Nat.add_mul]; omega
      omega
    · rw [Nat.add_zero]; omega
  generalize hQ : dq 1152921504606846976 n = Q at *
  have lo : 1048576 ≤ Q := by
    apply Classical.byContradiction
    intro hc
    have : Q * n ≤ 1048575 * n := Nat.mul_le_mul_right n (by omega)
    omega
  have hi : Q ≤ 1099511627776 := by
    apply Classical.byContradiction
    intro hc
    have : 1099511627777 * n ≤ Q * n := Nat.mul_le_mul_right n (by omega)
    omega
  have er : r = Q := by rw [er, satv_id (a := (Q : Int)) (by omega) (by omega)]
  subst er
  have ec : ((Q : Int) * (n : Int)) = ((Q * n : Nat) : Int) := by simp
  refine ⟨by omega, by omega, by rw [ec]; omega, by rw [ec]; omega, ?_⟩
  rw [eh]
  simp only [U, ieq_b2i]
  have s1 : sath 1073741824 = false := (satv_in (by decide) (by decide)).2
  have s2 : sath (n : Int) = false := (satv_in (by omega) (by omega)).2
  have e1' : satv 1073741824 * 2 ^ (Int.toNat 30) = 1152921504606846976 := e1
  rw [s1, s2, e1', eD]
  unfold divh
  rw [if_neg (by omega), hz]
  exact (satv_in (a := (Q : Int)) (by omega) (by omega)).2
theorem twice {a r s : Int} (h1 : 1048576 ≤ a) (h2 : a ≤ 1099511627776) (r1 : 1048576 ≤ r) (ra : 2 * (r * a) ≤ 2305843009213693952 + a) (ra' : 2305843009213693952 - a ≤ 2 * (r * a))
    (sr : 2 * (s * r) ≤ 2305843009213693952 + r) (sr' : 2305843009213693952 - r ≤ 2 * (s * r)) : s - a ≤ 1048576 ∧ -1048576 ≤ s - a := by
  have e1 : s * r = r * s := Int.mul_comm _ _
  rw [e1] at sr sr'
  refine ⟨?_, ?_⟩ <;> apply Classical.byContradiction <;> intro hc
  · have h3 : r * (a + 1048577) ≤ r * s := Int.mul_le_mul_of_nonneg_left (by omega) (by omega)
    have h4 : r * (a + 1048577) = r * a + 1048577 * r := by grind
    omega
  · have h3 : r * s ≤ r * (a - 1048577) := Int.mul_le_mul_of_nonneg_left (by omega) (by omega)
    have h4 : r * (a - 1048577) = r * a - 1048577 * r := by grind
    omega
theorem walk (a : Int) (wa : (Lit.int .i64 a).wf = true) (b : Int) (wb : (Lit.int .i64 b).wf = true) (w : World) :
    Calls Try.prog 9 #[.int .i64 a, .int .i64 b] w fun e w' => e = .returned (.bool true) ∧ RowKit.Below w.heap.size w w' := by
  have ia : inK .i64 a := inK_i64.2 (wf_i64 wa)
  have ib : inK .i64 b := inK_i64.2 (wf_i64 wb)
  have hv : ∀ g : Sg, (∀ i, i < 2 → g i = (fun i => if i = 0 then a else b) i) → VL g (fun _ => none) [.w (.c (.i .i64 (.x 0))), .w (.c (.i .i64 (.x 1)))] [.int .i64 a, .int .i64 b] := by
    intro g hg
    have g0 : g 0 = a := hg 0 (by decide)
    have g1 : g 1 = b := hg 1 (by decide)
    refine ⟨?_, ?_, trivial⟩
    · have := mk_i (g := g) (fun _ => none) (k := .i64) (a := .x 0) (by show inK .i64 (g 0); rw [g0]; exact ia)
      have e : (A.x 0).val g = a := g0
      rw [e] at this; exact this
    · have := mk_i (g := g) (fun _ => none) (k := .i64) (a := .x 1) (by show inK .i64 (g 1); rw [g1]; exact ib)
      have e : (A.x 1).val g = b := g1
      rw [e] at this; exact this
  by_cases h0 : 0 ≤ a
  · by_cases h1 : a ≤ b
    · by_cases h2 : a < 1048576
      · refine sym_true namesOk mixed sums_ok m2_ran m2_wf _ (fun g hg hd => ?_) _ hv w
        have g0 : g 0 = a := hg 0 (by decide)
        have g1 : g 1 = b := hg 1 (by decide)
        obtain ⟨e2, e3, e4, e5, e6, e9, e10, e11, e12, e13, e14, e17, e18, e19, e20⟩ := m2_eqs hd
        rw [g0] at e2 e3 e4 e20
        rw [g1] at e3 e11
        refine ⟨?_, rfl⟩
        simp only [m2S, List.forall_mem_cons]
        exact ⟨is_lss e20 h2, no_gtr e19 (root_rises h0 h1 e4 e6 e9 e11 e14 e17), is_geq e3 h1, is_geq e2 h0, fun _ h => by cases h⟩
      · by_cases h3 : 1099511627776 < a
        · refine sym_true namesOk mixed sums_ok m3_ran m3_wf _ (fun g hg hd => ?_) _ hv w
          have g0 : g 0 = a := hg 0 (by decide)
          have g1 : g 1 = b := hg 1 (by decide)
          obtain ⟨e2, e3, e4, e5, e6, e9, e10, e11, e12, e13, e14, e17, e18, e19, e20, e21⟩ := m3_eqs hd
          rw [g0] at e2 e3 e4 e20 e21
          rw [g1] at e3 e11
          refine ⟨?_, rfl⟩
          simp only [m3S, List.forall_mem_cons]
          exact ⟨is_gtr e21 h3, no_lss e20 (by omega), no_gtr e19 (root_rises h0 h1 e4 e6 e9 e11 e14 e17), is_geq e3 h1, is_geq e2 h0, fun _ h => by cases h⟩
        · refine sym_true namesOk mixed sums_ok m4_ran m4_wf _ (fun g hg hd => ?_) _ hv w
          have g0 : g 0 = a := hg 0 (by decide)
          have g1 : g 1 = b := hg 1 (by decide)
          obtain ⟨e2, e3, e4, e5, e6, e9, e10, e11, e12, e13, e14, e17, e18, e19, e20, e21, e22, e23, e24, e25, e26, e27, e28, e29, e30⟩ := m4_eqs hd
          rw [g0] at e2 e3 e4 e20 e21 e22 e23 e27
          rw [g1] at e3 e11
          obtain ⟨r1, r2, r3, r4, r5⟩ := recip (by omega) (by omega) e22 e23
          obtain ⟨s1, s2, s3, s4, s5⟩ := recip r1 r2 e24 e25
          obtain ⟨t1, t2⟩ := twice (by omega) (by omega) r1 r3 r4 s3 s4
          have e27 : g 27 = g 24 - a := by rw [e27, wrapF_eq, IntKind.wrap_i64]; omega
          refine ⟨?_, ok_yes e30 (by rw [e26, r5]; exact s5)⟩
          simp only [m4S, List.forall_mem_cons]
          exact ⟨is_geq e29 (by omega), is_leq e28 (by omega), no_gtr e21 (by omega), no_lss e20 (by omega), no_gtr e19 (root_rises h0 h1 e4 e6 e9 e11 e14 e17), is_geq e3 h1, is_geq e2 h0, fun _ h => by cases h⟩
    · by_cases h2 : a < 1048576
      · refine sym_true namesOk mixed sums_ok n2_ran n2_wf _ (fun g hg hd => ?_) _ hv w
        have g0 : g 0 = a := hg 0 (by decide)
        have g1 : g 1 = b := hg 1 (by decide)
        obtain ⟨e2, e3, e4⟩ := n2_eqs hd
        rw [g0] at e2 e3 e4
        rw [g1] at e3
        refine ⟨?_, rfl⟩
        simp only [n2S, List.forall_mem_cons]
        exact ⟨is_lss e4 h2, no_geq e3 (by omega), is_geq e2 h0, fun _ h => by cases h⟩
      · by_cases h3 : 1099511627776 < a
        · refine sym_true namesOk mixed sums_ok n3_ran n3_wf _ (fun g hg hd => ?_) _ hv w
          have g0 : g 0 = a := hg 0 (by decide)
          have g1 : g 1 = b := hg 1 (by decide)
          obtain ⟨e2, e3, e4, e5⟩ := n3_eqs hd
          rw [g0] at e2 e3 e4 e5
          rw [g1] at e3
          refine ⟨?_, rfl⟩
          simp only [n3S, List.forall_mem_cons]
          exact ⟨is_gtr e5 h3, no_lss e4 (by omega), no_geq e3 (by omega), is_geq e2 h0, fun _ h => by cases h⟩
        · refine sym_true namesOk mixed sums_ok n4_ran n4_wf _ (fun g hg hd => ?_) _ hv w
          have g0 : g 0 = a := hg 0 (by decide)
          have g1 : g 1 = b := hg 1 (by decide)
          obtain ⟨e2, e3, e4, e5, e6, e7, e8, e9, e10, e11, e12, e13, e14⟩ := n4_eqs hd
          rw [g0] at e2 e3 e4 e5 e6 e7 e11
          rw [g1] at e3
          obtain ⟨r1, r2, r3, r4, r5⟩ := recip (by omega) (by omega) e6 e7
          obtain ⟨s1, s2, s3, s4, s5⟩ := recip r1 r2 e8 e9
          obtain ⟨t1, t2⟩ := twice (by omega) (by omega) r1 r3 r4 s3 s4
          have e11 : g 11 = g 8 - a := by rw [e11, wrapF_eq, IntKind.wrap_i64]; omega
          refine ⟨?_, ok_yes e14 (by rw [e10, r5]; exact s5)⟩
          simp only [n4S, List.forall_mem_cons]
          exact ⟨is_geq e13 (by omega), is_leq e12 (by omega), no_gtr e5 (by omega), no_lss e4 (by omega), no_geq e3 (by omega), is_geq e2 h0, fun _ h => by cases h⟩
  · refine sym_true namesOk mixed sums_ok n1_ran n1_wf _ (fun g hg hd => ?_) _ hv w
    have g0 : g 0 = a := hg 0 (by decide)
    obtain ⟨e2, e3⟩ := n1_eqs hd
    rw [g0] at e2 e3
    refine ⟨?_, rfl⟩
    simp only [n1S, List.forall_mem_cons]
    exact ⟨is_lss e3 (by omega), no_geq e2 (by omega), fun _ h => by cases h⟩
end Go.Proofs.Ytahedampmjfoeaa.rootRises
