/- Sums of products and of squares: what holds of them. -/
import Derived.Test.YtdleeeahonfnkaaQH
import Derived.Test.YtdleeeahonfnkaaPD
import Derived.Deep.DeepCutAuto
namespace Go.Proofs.Ytdleeeahonfnkaa
open Go.RowKit

theorem abs_neg_of {x : Int} (h : x < 0) : (x.natAbs : Int) = -x := by omega
/-- A sum, as its sign and its size. -/
theorem qdot_step {B : Bool} {m S : Int} {x y : Int} (k : Nat) (hk : k < 100) (hB : qval B m = S) (h0 : 0 ≤ m) (hm : m ≤ 1329227995784915872903807060280344576 * (k : Int)) :
    ∃ B' m', qs B (decide (satv x < 0) != decide (satv y < 0)) m (((satv x).natAbs : Int) * ((satv y).natAbs : Int)) = B' ∧ qn B (decide (satv x < 0) != decide (satv y < 0)) m (((satv x).natAbs : Int) * ((satv y).natAbs : Int)) = m' ∧
      qval B' m' = S + satv x * satv y ∧ 0 ≤ m' ∧ m' ≤ 1329227995784915872903807060280344576 * ((k + 1 : Nat) : Int) ∧ InQ m ∧ InQ (((satv x).natAbs : Int) * ((satv y).natAbs : Int)) ∧
      (B = (decide (satv x < 0) != decide (satv y < 0)) → InQ (m + ((satv x).natAbs : Int) * ((satv y).natAbs : Int))) := by
  have hp := mul_in x y
  have hp' : ((satv x).natAbs : Int) * ((satv y).natAbs : Int) ≤ 1329227995784915872903807060280344576 := by
    have : (((satv x).natAbs * (satv y).natAbs : Nat) : Int) ≤ 1329227995784915872903807060280344576 := by omega
    simpa using this
  have hp0 : 0 ≤ ((satv x).natAbs : Int) * ((satv y).natAbs : Int) := Int.mul_nonneg (by omega) (by omega)
  have hv : qval (decide (satv x < 0) != decide (satv y < 0)) (((satv x).natAbs : Int) * ((satv y).natAbs : Int)) = satv x * satv y := by
    have h1 : (satv x * satv y) = qval (decide (satv x < 0) != decide (satv y < 0)) (((satv x).natAbs : Int) * ((satv y).natAbs : Int)) := by
      unfold qval
      by_cases a : satv x < 0 <;> by_cases b : satv y < 0 <;> simp [a, b]
      · rw [abs_neg_of (by omega : satv x < 0), abs_neg_of (by omega : satv y < 0), Int.neg_mul_neg]
      · rw [abs_neg_of (by omega : satv x < 0), Int.natAbs_of_nonneg (by omega : 0 ≤ satv y), Int.neg_mul, Int.neg_neg]
      · rw [abs_neg_of (by omega : satv y < 0), Int.natAbs_of_nonneg (by omega : 0 ≤ satv x), Int.mul_neg, Int.neg_neg]
      · rw [Int.natAbs_of_nonneg (by omega : 0 ≤ satv x), Int.natAbs_of_nonneg (by omega : 0 ≤ satv y)]
    exact h1.symm
  generalize hc : (decide (satv x < 0) != decide (satv y < 0)) = c at *
  generalize hz : ((satv x).natAbs : Int) * ((satv y).natAbs : Int) = z at *
  have hqa := qval_add B c m z
  refine ⟨_, _, rfl, rfl, by rw [hqa, hB, hv], ?_, ?_, ⟨by omega, by omega⟩, ⟨by omega, by omega⟩, fun _ => ⟨by omega, by omega⟩⟩
  · unfold qn; split <;> (try split) <;> omega
  · unfold qn; split <;> (try split) <;> omega
/-- A round's two calls. -/
theorem qdot_calls {B : Bool} {m S : Int} (x y : Int) (k : Nat) (hk : k < 100) (hB : qval B m = S) (h0 : 0 ≤ m) (hm : m ≤ 1329227995784915872903807060280344576 * (k : Int)) :
    ∃ C Z B' m', (∀ w, Calls Try.prog 121 #[.int .i64 (satv x), .int .i64 (satv y)] w fun e w' => e = .returned (Qv C Z) ∧ Below w.heap.size w w') ∧
      (∀ w, Calls Try.prog 120 #[Qv B m, Qv C Z] w fun e w' => e = .returned (Qv B' m') ∧ Below w.heap.size w w') ∧
      qval B' m' = S + satv x * satv y ∧ 0 ≤ m' ∧ m' ≤ 1329227995784915872903807060280344576 * ((k + 1 : Nat) : Int) := by
  obtain ⟨B', m', h1, h2, h3, h4, h5, h6, h7, h8⟩ := qdot_step (x := x) (y := y) k hk hB h0 hm
  refine ⟨_, _, B', m', fun w => q_mul (satv x) (satv y) w (satv_lo x) (satv_hi x) (satv_lo y) (satv_hi y), fun w => ?_, h3, h4, h5⟩
  have := q_add B _ m _ w h6 h7 h8
  rw [h1, h2] at this
  exact this
theorem rnd_qval (b : Bool) (m s : Nat) : qval b ((rq m s : Nat) : Int) = rnd (qval b (m : Int)) s := by
  unfold rnd qval withSign
  cases b
  · have : ¬ ((m : Int) < 0) := by omega
    simp [this]
  · simp only [if_true, Int.natAbs_neg, Int.natAbs_natCast]
    by_cases h : m = 0
    · subst h; simp [rq_zero]
    · have : (-(m : Int) < 0) := by omega
      simp [h]
theorem heap_set3 {w : World} {B : Nat} {a b c : Value} {t : TypeId} {fr : Nat × Nat} (h : w.heap[B]? = some (.cells #[a, b, c] t fr)) (x y z : Value) : (((w.setCell ⟨B, 0, none⟩ x).setCell ⟨B, 1, none⟩ y).setCell ⟨B, 2, none⟩ z).heap[B]? = some (.cells #[x, y, z] t fr) := by
  simp [World.setCell, Array.getElem?_modify, h]
def sumQ (xs : Nat → Int) : Nat → Int
  | 0 => 0
  | k + 1 => sumQ xs k + satv (xs k) * satv (xs k)
theorem sq_nn (x : Int) : 0 ≤ satv x * satv x := by
  rcases Int.le_total 0 (satv x) with h | h
  · exact Int.mul_nonneg h h
  · exact Int.mul_nonneg_of_nonpos_of_nonpos h h
theorem sq_le (x : Int) : satv x * satv x ≤ 1329227995784915872903807060280344576 := by
  have h := bilin_abs (k := 1152921504606846976) (by omega) (satv_lo x) (satv_hi x) (satv_lo x) (satv_hi x)
  omega
theorem sumQ_bd (xs : Nat → Int) (k : Nat) : 0 ≤ sumQ xs k ∧ sumQ xs k ≤ 1329227995784915872903807060280344576 * (k : Int) := by
  induction k with
  | zero => simp [sumQ]
  | succ k ih =>
    have h1 := sq_nn (xs k)
    have h2 := sq_le (xs k)
    simp only [sumQ]
    generalize satv (xs k) * satv (xs k) = z at *
    omega
theorem sumQ_in (xs : Nat → Int) (k : Nat) (hk : k ≤ 62) : InW (sumQ xs k) := by
  have := sumQ_bd xs k
  exact ⟨by omega, by omega⟩
end Go.Proofs.Ytdleeeahonfnkaa
