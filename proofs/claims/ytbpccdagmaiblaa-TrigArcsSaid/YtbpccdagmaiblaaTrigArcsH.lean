/- astrolabelaw4.TrigArcs: the facts, and all its cases. -/
import Derived.Test.YtbpccdagmaiblaaTrigArcsR0
import Derived.Test.YtbpccdagmaiblaaTrigArcsR1
import Derived.Test.YtbpccdagmaiblaaTrigArcsR2
import Derived.Test.YtbpccdagmaiblaaTrigArcsR3
import Derived.Test.YtbpccdagmaiblaaTrigArcsR4
import Derived.Test.YtbpccdagmaiblaaTrE
namespace Go.Proofs.Ytbpccdagmaiblaa.trigArcs
open Go SX Tr
theorem not0 {z : Int} (h : z = 0) : ieq (b2i (!ieq z 1)) 1 = true := by subst h; rfl
theorem root_is {v c : Int} (v1 : 1 ≤ v) (v2 : v ≤ 1073741830) (hc : c = U 30 [v]) : (1 ≤ c ∧ c ≤ 1073741829) ∧ c * c - c < v * 1073741824 ∧ v * 1073741824 ≤ c * c + c := by
  have e : c = ((rootN (v.natAbs * 1073741824) : Nat) : Int) := by
    rw [hc]
    show sqwF v = _
    rw [sqwF_eq]
    unfold sqw
    rw [satv_id (by unfold mx; omega) (by unfold mx; omega), if_neg (by omega)]
  have k := sp_root (v.natAbs * 1073741824)
  rw [← e] at k
  have e2 : ((v.natAbs * 1073741824 : Nat) : Int) = v * 1073741824 := by omega
  rw [e2] at k
  obtain ⟨k1, k2, k3⟩ := k
  have c1 : 1 ≤ c := by
    refine Int.not_lt.1 fun h => ?_
    have z : c = 0 := by omega
    rw [z] at k2; omega
  have k3 : c * c - c < v * 1073741824 := by
    rcases k3 with h | h
    · omega
    · exact h
  refine ⟨⟨c1, ?_⟩, k3, k2⟩
  refine Int.not_lt.1 fun h => ?_
  have m := Int.mul_le_mul (show 1073741830 ≤ c by omega) (show 1073741829 ≤ c - 1 by omega) (by decide) (by omega)
  have e3 : c * (c - 1) = c * c - c := by grind
  omega
theorem arcs_num {a m v c : Int} (a1 : -1063004382 ≤ a) (a2 : a ≤ 1063004382) (hm : m = U 2 [a, a, 30]) (hv : v = -1 * m + 1073741824) (hc : c = U 30 [v]) :
    (-3373259426 ≤ atanF a c ∧ atanF a c ≤ 3373259426) ∧ (-1024 ≤ sinF (atanF a c) - a ∧ sinF (atanF a c) - a ≤ 1024) ∧ ((0 < a → 0 < atanF a c) ∧ (a < 0 → atanF a c < 0) ∧ (a = 0 → atanF a c = 0)) ∧ U 39 [a, c] = 0 := by
  have hm' : m = mq a a := hm
  have mn := mq_near (a := a) (b := a) (by omega) (by omega) (by omega) (by omega)
  rw [← hm'] at mn
  have s := Nm.sqnn a
  have b := bil (u := a) (d := a) (B := 1063004382) (S := 1063004382) (by omega) (by omega) (by omega) (by omega)
  obtain ⟨⟨c1, c2⟩, r1, r2⟩ := root_is (v := v) (by omega) (by omega) hc
  have c3 : c ≤ 1073741826 := by
    refine Int.not_lt.1 fun h => ?_
    have p := Int.mul_le_mul (show 1073741827 ≤ c by omega) (show 1073741826 ≤ c - 1 by omega) (by decide) (by omega)
    have e3 : c * (c - 1) = c * c - c := by grind
    omega
  obtain ⟨h1, h2, h3⟩ := arc_T (a := a) (c := c) rfl (by omega) (by omega) (by omega)
  have sg := atan_sign (a := a) (c := c) (by omega) (by omega) c1 c3
  refine ⟨h1, ?_, sg, U39_no (by omega) (by omega)⟩
  clear sg r1 r2 mn hm hm' hv hc b s
  generalize atanF a c = x at *
  have w := sinF_w (a := x) (by omega) (by omega)
  obtain ⟨q, hq⟩ := wrapT_mod x
  have i := wrapT_in x
  have e : wrapT x = x ∨ (x = -3373259426 ∧ wrapT x = 3373259426) := by omega
  rcases e with e | ⟨e1, e2⟩
  · rw [e] at w; omega
  · rw [e2, sTP] at w
    rw [e1, sTPn] at h2 h3
    rw [e1] at w ⊢
    omega
theorem ok0 {g : Sg} {a : Int} (e0 : g 0 = a) (a1 : 0 < a) (a2 : a ≤ 1063004382) (he : EqsP g ds0) : FactsOk g facts0 ∧ ieq (rv0.val g) 1 = true := by
  obtain ⟨e1, e4, e5, e6, e7, e8, e9, e10, e17, _⟩ := eqs0 he
  have k1 : g 1 = a := by rw [e1, e0]; exact SX.wrap_small (by omega) (by omega)
  rw [k1] at e4 e7 e8
  obtain ⟨h1, h2, h3, h4⟩ := arcs_num (a := a) (by omega) (by omega) e4 e5 e6
  have c7 : g 7 = atanF a (g 6) := e7
  have c9 : g 9 = sinF (g 7) := e9
  rw [← c7] at h1 h2 h3
  rw [← c9] at h2
  have p := h3.1 (by omega)
  refine ⟨told0 (by omega) (by omega) (by omega) (by omega) (by omega) (by omega) (by omega) (by omega), ?_⟩
  show ieq (g 17) 1 = true
  rw [e17]
  exact not0 (e8.trans h4)
theorem ok1 {g : Sg} {a : Int} (e0 : g 0 = a) (a1 : -1063004382 ≤ a) (a2 : a < 0) (he : EqsP g ds1) : FactsOk g facts1 ∧ ieq (rv1.val g) 1 = true := by
  obtain ⟨e1, e4, e5, e6, e7, e8, e9, e10, e17, _⟩ := eqs1 he
  have k1 : g 1 = a := by rw [e1, e0]; exact SX.wrap_small (by omega) (by omega)
  rw [k1] at e4 e7 e8
  obtain ⟨h1, h2, h3, h4⟩ := arcs_num (a := a) (by omega) (by omega) e4 e5 e6
  have c7 : g 7 = atanF a (g 6) := e7
  have c9 : g 9 = sinF (g 7) := e9
  rw [← c7] at h1 h2 h3
  rw [← c9] at h2
  have p := h3.2.1 (by omega)
  refine ⟨told1 (by omega) (by omega) (by omega) (by omega) (by omega) (by omega) (by omega) (by omega), ?_⟩
  show ieq (g 17) 1 = true
  rw [e17]
  exact not0 (e8.trans h4)
theorem ok2 {g : Sg} {a : Int} (e0 : g 0 = a) (a1 : a = 0) (he : EqsP g ds2) : FactsOk g facts2 ∧ ieq (rv2.val g) 1 = true := by
  obtain ⟨e1, e4, e5, e6, e7, e8, e9, e10, e17, _⟩ := eqs2 he
  have k1 : g 1 = a := by rw [e1, e0]; exact SX.wrap_small (by omega) (by omega)
  rw [k1] at e4 e7 e8
  obtain ⟨h1, h2, h3, h4⟩ := arcs_num (a := a) (by omega) (by omega) e4 e5 e6
  have c7 : g 7 = atanF a (g 6) := e7
  have c9 : g 9 = sinF (g 7) := e9
  rw [← c7] at h1 h2 h3
  rw [← c9] at h2
  have p := h3.2.2 a1
  refine ⟨told2 (by omega) (by omega) (by omega) (by omega) (by omega) (by omega) (by omega) (by omega) (by omega) (by omega), ?_⟩
  show ieq (g 17) 1 = true
  rw [e17]
  exact not0 (e8.trans h4)
theorem walk {a : Int} (wa : (Lit.int .i64 a).wf = true) {W : World} (fit : FitAs W [.one (some .i64)] [.int .i64 a] [.int .i64 a]) :
    Calls Try.prog 5 #[.int .i64 a] W fun e w' => e = .returned (.bool true) ∧ RowKit.Below W.heap.size W w' := by
  have v0 := wf_i64 wa
  have k1 : ∀ {g : Sg}, g 0 = a → g 1 = wrapF .i64 (g 0) → g 1 = a := fun h h1 => by rw [h1, h]; exact SX.wrap_small (by omega) (by omega)
  by_cases h1 : 1063004382 < a
  · exact law_fitH (all := [.int .i64 a]) namesOk mixed (fun g => sumsR_ok g) ran3 (fun g hg he => ⟨told3 (by have := k1 (hg 0 (by decide)) (eqs3 he).1; omega), rfl⟩) fit
  by_cases h2 : a < -1063004382
  · exact law_fitH (all := [.int .i64 a]) namesOk mixed (fun g => sumsR_ok g) ran4 (fun g hg he => by
      have := k1 (hg 0 (by decide)) (eqs4 he).1
      exact ⟨told4 (by omega) (by omega), rfl⟩) fit
  rcases Int.lt_trichotomy a 0 with h3 | h3 | h3
  · exact law_fitH (all := [.int .i64 a]) namesOk mixed (fun g => sumsR_ok g) ran1 (fun g hg he => ok1 (a := a) (hg 0 (by decide)) (by omega) h3 he) fit
  · exact law_fitH (all := [.int .i64 a]) namesOk mixed (fun g => sumsR_ok g) ran2 (fun g hg he => ok2 (a := a) (hg 0 (by decide)) h3 he) fit
  · exact law_fitH (all := [.int .i64 a]) namesOk mixed (fun g => sumsR_ok g) ran0 (fun g hg he => ok0 (a := a) (hg 0 (by decide)) h3 (by omega) he) fit
end Go.Proofs.Ytbpccdagmaiblaa.trigArcs
