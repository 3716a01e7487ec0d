/- A number learnt: a row with its signs turned. Nothing of a program is used. -/
import Derived.Test.YtplffehgjdinnaaBieR
namespace Go.Proofs.Ytplffehgjdinnaa
open Go.RowKit

theorem sumP_neg (xs ys : Nat → Int) : ∀ n, sumP (fun k => -xs k) ys n = -sumP xs ys n
  | 0 => rfl
  | n + 1 => by rw [sumP, sumP, sumP_neg xs ys n, satv_neg, Int.neg_mul]; omega
theorem anyP_neg (xs ys : Nat → Int) : ∀ n, anyP (fun k => -xs k) ys n = anyP xs ys n
  | 0 => rfl
  | n + 1 => by rw [anyP, anyP, anyP_neg xs ys n, SX.sath_neg]
theorem mulh_neg (a b : Int) : mulh (-a) b = mulh a b := by
  unfold mulh
  rw [satv_neg, Int.neg_mul, SX.rnd_neg, SX.sath_neg, SX.sath_neg]
theorem mulh_neg2 (a b : Int) : mulh a (-b) = mulh a b := by
  unfold mulh
  rw [satv_neg, Int.mul_neg, SX.rnd_neg, SX.sath_neg, SX.sath_neg]
theorem mul4h_neg (a b : Int) : mul4h (-a) (-b) = mul4h a b := by
  unfold mul4h
  rw [satv_neg, satv_neg, Int.neg_mul_neg, SX.sath_neg, SX.sath_neg]
theorem addv_neg (a b : Int) : addv (-a) (-b) = -addv a b := by
  unfold addv
  rw [satv_neg, satv_neg, ← Int.neg_add, satv_neg]
theorem addh_neg (a b : Int) : addh (-a) (-b) = addh a b := by
  unfold addh
  rw [satv_neg, satv_neg, ← Int.neg_add, SX.sath_neg, SX.sath_neg, SX.sath_neg]
theorem divZ_neg (v d : Int) (hd : d ≠ 0) : divZ (-v) d = -divZ v d := by
  rw [divZ_sign, divZ_sign, Int.natAbs_neg]
  by_cases hv : v = 0
  · subst hv
    rw [show (0 : Int).natAbs = 0 from rfl, dq_zero _ (by omega)]
    unfold withSign
    (repeat' split) <;> rfl
  · have e : decide (-v < 0) = !decide (v < 0) := by
      by_cases h : v < 0
      · rw [decide_eq_true h, decide_eq_false (by omega)]; rfl
      · rw [decide_eq_false h, decide_eq_true (by omega)]; rfl
    rw [e]
    unfold withSign
    cases decide (v < 0) <;> cases decide (d < 0) <;> simp
theorem side_turn (v : Int) : sideOf (-v) = -sideOf v := by
  rcases Int.lt_trichotomy v 0 with h | h | h
  · rw [side_neg h, side_pos (by omega)]; omega
  · subst h; rfl
  · rw [side_pos h, side_neg (by omega)]
theorem divv_neg (v d : Int) : divv (-v) d = -divv v d := by
  unfold divv
  split
  · exact side_turn v
  · rename_i h; rw [divZ_neg v d h, satv_neg]
theorem divh_neg (v d : Int) : divh (-v) d = divh v d := by
  unfold divh
  split
  · rfl
  · rename_i h; rw [divZ_neg v d h, SX.sath_neg]
theorem quov_neg (a b : Int) : quov (-a) b = -quov a b := by unfold quov; rw [satv_neg, Int.neg_mul, divv_neg]
theorem quoh_neg (a b : Int) : quoh (-a) b = quoh a b := by unfold quoh; rw [satv_neg, Int.neg_mul, divh_neg, SX.sath_neg]
theorem quo4v_neg (a b : Int) : quo4v (-a) b = -quo4v a b := by unfold quo4v; rw [satv_neg, Int.neg_mul, divv_neg]
theorem quo4h_neg (a b : Int) : quo4h (-a) b = quo4h a b := by unfold quo4h; rw [satv_neg, Int.neg_mul, divh_neg, SX.sath_neg]
theorem upd_neg (b : Nat → Int) (i : Nat) (x : Int) : upd (fun k => -b k) i (-x) = fun k => -upd b i x k := by
  funext k; unfold upd
  split <;> rfl
section
variable (p h : Nat → Int) (r : Int)
theorem neg_F (j : Nat) : bF p (fun k => -h k) j = -bF p h j := by
  unfold bF dotv
  rw [sumP_neg, SX.rnd_neg, satv_neg]
theorem neg_V (j : Nat) : bV p (fun k => -h k) j = -bV p h j := by unfold bV; rw [neg_F, mulv_neg2]
theorem neg_A : ∀ j, bA p (fun k => -h k) r j = bA p h r j
  | 0 => rfl
  | j + 1 => by rw [bA, bA, neg_A j, neg_F, neg_V, mulv_neg, mulv_neg2, Int.neg_neg]
theorem neg_L (j : Nat) : lookH1 p (fun k => -h k) r j = lookH1 p h r j := by
  unfold lookH1 doth
  rw [neg_F, neg_V, neg_A, anyP_neg, sumP_neg, SX.rnd_neg, SX.sath_neg, mulh_neg2, mulh_neg, mulh_neg2, mulv_neg, mulv_neg2, Int.neg_neg]
theorem neg_B (v : Nat → Int) : ∀ n, lrB p (fun j => -v j) n = fun k => -lrB p v n k
  | 0 => by funext k; rfl
  | n + 1 => by
    rw [lrB, lrB, neg_B v n, upd_neg]
    funext k
    unfold nexB
    split
    · rw [mulv_neg2, addv_neg]
    · rfl
theorem neg_nex (b o : Nat → Int) (x : Int) (j : Nat) : ∀ t, nexO p (fun k => -b k) o (-x) j t = nexO p b o x j t
  | 0 => rfl
  | t + 1 => by rw [nexO, nexO, neg_nex b o x j t, mul4v_neg]
theorem neg_X (f a : Nat → Int) (j : Nat) : bX (fun j => -f j) a j = -bX f a j := by unfold bX; rw [quo4v_neg]
theorem neg_O (f v a : Nat → Int) : ∀ n, lrO p (fun j => -f j) (fun j => -v j) a n = lrO p f v a n
  | 0 => rfl
  | n + 1 => by rw [lrO, lrO, neg_O f v a n, neg_B, upd_neg, neg_X, neg_nex]
theorem neg_H (f v a : Nat → Int) (n : Nat) : lrH1 p (fun j => -f j) (fun j => -v j) a n = lrH1 p f v a n := by
  unfold lrH1
  rw [quo4h_neg, neg_B, upd_neg, neg_X]
  have e : anyN (nexL p (fun j => -v j) (fun k => -upd (lrB p v n) n (v n) k) (-bX f a n) n) n = anyN (nexL p v (upd (lrB p v n) n (v n)) (bX f a n) n) n := by
    refine anyN_congr fun k _ => ?_
    unfold nexL
    rw [mul4h_neg, mul4v_neg, mulh_neg2, mulv_neg2, addh_neg]
  rw [e]
theorem neg_sat : satH (fun k => -h k) = fun k => -satH h k := by funext k; exact satv_neg _
theorem neg_FF : bF p (fun k => -h k) = fun j => -bF p h j := by funext j; exact neg_F p h j
theorem neg_VV : bV p (fun k => -h k) = fun j => -bV p h j := by funext j; exact neg_V p h j
theorem neg_AA : bA p (fun k => -h k) r = bA p h r := by funext j; exact neg_A p h r j
theorem updF_neg : updF p (fun k => -h k) r = updF p h r := by unfold updF; rw [neg_sat, neg_FF, neg_VV, neg_AA, neg_O]
theorem updS_neg : updS p (fun k => -h k) r = updS p h r := by unfold updS; rw [neg_sat, neg_AA]
theorem updB_neg (k : Nat) : updB p (fun k => -h k) k = -updB p h k := by unfold updB; rw [neg_sat, neg_VV, neg_B]
theorem updK_neg (k : Nat) : updK p (fun k => -h k) r k = -updK p h r k := by unfold updK; rw [updB_neg, updS_neg, quov_neg]
theorem or_same {a b c d : Bool} (h1 : a = c) (h2 : b = d) : (a || b) = (c || d) := by rw [h1, h2]
theorem innH_neg : innH p (fun k => -h k) r = innH p h r := by
  unfold innH lookH
  rw [neg_sat]
  exact or_same rfl (or_same (or_same (anyN_congr fun k _ => SX.sath_neg _) rfl) (anyN_congr fun k _ => neg_L _ _ _ k))
theorem updH_neg : updH p (fun k => -h k) r = updH p h r := by
  unfold updH
  rw [innH_neg, neg_sat, neg_FF, neg_VV, neg_AA, updS_neg]
  exact or_same (or_same rfl (anyN_congr fun k _ => neg_H _ _ _ _ k)) (anyN_congr fun k _ => by rw [updB_neg, quoh_neg])
theorem updK_bd (k : Nat) : -1152921504606846976 ≤ updK p h r k ∧ updK p h r k ≤ 1152921504606846976 := quov_bd2 _ _
end
theorem upd_turn (p h : Nat → Int) (r : Int) (q o : Nat) (g : Bool) (w : World) (fl : Fl q o g w) :
    Calls Try.prog 88 #[.pointer (some ⟨q, o, none⟩), .agg (rowA 300 p), .agg (rowA 24 fun k => -h k), .int .i64 r] w fun e w' => e = .returned (.tuple #[.agg (rowA 300 (updF p h r)), .agg (rowA 24 fun k => -updK p h r k), .int .i64 (updS p h r)]) ∧ FlW q o (g || updH p h r) w w' := by
  have := upd_any q o p (fun k => -h k) r g w fl
  rwa [updF_neg, updS_neg, updH_neg, show updK p (fun k => -h k) r = fun k => -updK p h r k from funext fun k => updK_neg p h r k] at this
section
variable {w0 : World} {q p : Nat} {g g2 : Bool} {L : List (Nat × Nat × (Nat → Int) × TypeId)} {w w' : World}
/-- Another flag is set. -/
theorem Lw.far (s : Lw w0 q g L w) (k : FlW p 0 g2 w w') (hp : w0.heap.size ≤ p) (hq : q ≠ p) (hL : ∀ x ∈ L, x.1 ≠ p) : Lw w0 q g L w' :=
  ⟨s.fl.far k hq, s.be.trans (k.below s.be.size hp), s.lo, fun x hx => ⟨(s.B x hx).1, (s.B x hx).2.1, (s.B x hx).2.2.flag (hL x hx) k⟩⟩
end
end Go.Proofs.Ytplffehgjdinnaa
