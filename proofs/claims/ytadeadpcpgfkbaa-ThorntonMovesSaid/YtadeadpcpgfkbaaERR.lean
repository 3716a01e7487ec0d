/- The errors of a step that makes rows orthogonal: numbers. -/
import Derived.Test.YtadeadpcpgfkbaaBlkP
import Derived.Test.YtadeadpcpgfkbaaRN

/- ErrA -/
namespace Go.Proofs.Ytadeadpcpgfkbaa.EA
open Go.RowKit

def ws (e x y : Nat → Int) : Nat → Int
  | 0 => 0
  | n + 1 => ws e x y n + x n * y n * e n
theorem ws_comm (e x y : Nat → Int) : ∀ n, ws e x y n = ws e y x n
  | 0 => rfl
  | n + 1 => by rw [ws, ws, ws_comm e x y n, Int.mul_comm (x n)]
theorem ws_congr {e x y x' y' : Nat → Int} : ∀ {n : Nat}, (∀ k, k < n → x k = x' k) → (∀ k, k < n → y k = y' k) → ws e x y n = ws e x' y' n
  | 0, _, _ => rfl
  | n + 1, h1, h2 => by rw [ws, ws, ws_congr (fun k hk => h1 k (by omega)) (fun k hk => h2 k (by omega)), h1 n (by omega), h2 n (by omega)]
theorem sq_nn (x : Int) : 0 ≤ x * x := by
  rcases Int.le_total 0 x with h | h
  · exact Int.mul_nonneg h h
  · exact Int.mul_nonneg_of_nonpos_of_nonpos h h
theorem le_of_sq {x y : Int} (hy : 0 ≤ y) (h : x * x ≤ y * y) : -y ≤ x ∧ x ≤ y := by
  constructor
  · rcases (show x < -y ∨ -y ≤ x by omega) with h1 | h1
    · exfalso
      have : (y + 1) * (y + 1) ≤ (-x) * (-x) := Int.mul_le_mul (by omega) (by omega) (by omega) (by omega)
      have e : (-x) * (-x) = x * x := by grind
      have e2 : (y + 1) * (y + 1) = y * y + 2 * y + 1 := by grind
      omega
    · exact h1
  · rcases (show y < x ∨ x ≤ y by omega) with h1 | h1
    · exfalso
      have : (y + 1) * (y + 1) ≤ x * x := Int.mul_le_mul (by omega) (by omega) (by omega) (by omega)
      have e2 : (y + 1) * (y + 1) = y * y + 2 * y + 1 := by grind
      omega
    · exact h1
theorem ws_nn {e x : Nat → Int} : ∀ {n : Nat}, (∀ k, k < n → 0 ≤ e k) → 0 ≤ ws e x x n
  | 0, _ => by simp [ws]
  | n + 1, h => by
    have h1 := ws_nn (e := e) (x := x) (n := n) (fun k hk => h k (by omega))
    have h2 := Int.mul_nonneg (sq_nn (x n)) (h n (by omega))
    rw [ws]; omega
theorem ws_term {e x : Nat → Int} : ∀ {n k : Nat}, (∀ k, k < n → 0 ≤ e k) → k < n → x k * x k * e k ≤ ws e x x n
  | 0, _, _, h => by omega
  | n + 1, k, h, hk => by
    rw [ws]
    have h2 := Int.mul_nonneg (sq_nn (x n)) (h n (by omega))
    by_cases ek : k = n
    · subst ek
      have h1 := ws_nn (e := e) (x := x) (n := k) (fun k hk => h k (by omega))
      omega
    · have h1 := ws_term (e := e) (x := x) (n := n) (k := k) (fun k hk => h k (by omega)) (by omega)
      omega
theorem cauchy {e x y : Nat → Int} : ∀ {n : Nat}, (∀ k, k < n → 0 ≤ e k) → ws e x y n * ws e x y n ≤ ws e x x n * ws e y y n
  | 0, _ => by simp [ws]
  | n + 1, h => by
    have ih := cauchy (e := e) (x := x) (y := y) (n := n) (fun k hk => h k (by omega))
    have hA := ws_nn (e := e) (x := x) (n := n) (fun k hk => h k (by omega))
    have hB := ws_nn (e := e) (x := y) (n := n) (fun k hk => h k (by omega))
    have he := h n (by omega)
    rw [ws, ws, ws]
    generalize ws e x y n = S at *
    generalize ws e x x n = A at *
    generalize ws e y y n = B at *
    generalize x n = a
    generalize y n = b
    generalize e n = q at *
    have hY : 0 ≤ A * (b * b) + B * (a * a) := by
      have h1 := Int.mul_nonneg hA (sq_nn b)
      have h2 := Int.mul_nonneg hB (sq_nn a)
      omega
    have hX : (2 * S * (a * b)) * (2 * S * (a * b)) ≤ (A * (b * b) + B * (a * a)) * (A * (b * b) + B * (a * a)) := by
      have h1 := sq_nn (A * (b * b) - B * (a * a))
      have h2 : S * S * ((a * b) * (a * b)) ≤ A * B * ((a * b) * (a * b)) := Int.mul_le_mul_of_nonneg_right ih (sq_nn _)
      have e1 : (2 * S * (a * b)) * (2 * S * (a * b)) = 4 * (S * S * ((a * b) * (a * b))) := by grind
      have e2 : (A * (b * b) + B * (a * a)) * (A * (b * b) + B * (a * a)) = (A * (b * b) - B * (a * a)) * (A * (b * b) - B * (a * a)) + 4 * (A * B * ((a * b) * (a * b))) := by grind
      omega
    have hle := (le_of_sq hY hX).2
    have hm : (2 * S * (a * b)) * q ≤ (A * (b * b) + B * (a * a)) * q := Int.mul_le_mul_of_nonneg_right hle he
    have e3 : (S + a * b * q) * (S + a * b * q) = S * S + (2 * S * (a * b)) * q + (a * b * q) * (a * b * q) := by grind
    have e4 : (A + a * a * q) * (B + b * b * q) = A * B + (A * (b * b) + B * (a * a)) * q + (a * b * q) * (a * b * q) := by grind
    omega
theorem ws_elim (e x z x' z' w : Nat → Int) (s u v : Int) : ∀ n, s * s * ws e x' z' n =
    s * s * ws e x z n - s * v * ws e x w n - s * u * ws e z w n + u * v * ws e w w n
    + s * ws e (fun k => s * x' k - s * x k + u * w k) z' n + s * ws e x' (fun k => s * z' k - s * z k + v * w k) n
    - ws e (fun k => s * x' k - s * x k + u * w k) (fun k => s * z' k - s * z k + v * w k) n
  | 0 => by simp [ws]
  | n + 1 => by
    have ih := ws_elim e x z x' z' w s u v n
    simp only [ws]
    generalize ws e x' z' n = g1 at *
    generalize ws e x z n = g2 at *
    generalize ws e x w n = g3 at *
    generalize ws e z w n = g4 at *
    generalize ws e w w n = g5 at *
    generalize ws e (fun k => s * x' k - s * x k + u * w k) z' n = g6 at *
    generalize ws e x' (fun k => s * z' k - s * z k + v * w k) n = g7 at *
    generalize ws e (fun k => s * x' k - s * x k + u * w k) (fun k => s * z' k - s * z k + v * w k) n = g8 at *
    generalize x n = a
    generalize z n = b
    generalize x' n = a'
    generalize z' n = b'
    generalize w n = c
    generalize e n = q
    grind
theorem mul_bd {a b A B : Int} (ha : -A ≤ a ∧ a ≤ A) (hb : -B ≤ b ∧ b ≤ B) : -(A * B) ≤ a * b ∧ a * b ≤ A * B := by
  have h1 : (a * b).natAbs ≤ A.natAbs * B.natAbs := by rw [Int.natAbs_mul]; exact Nat.mul_le_mul (by omega) (by omega)
  have h2 : ((A.natAbs * B.natAbs : Nat) : Int) = A * B := by
    rw [Int.natCast_mul, Int.natAbs_of_nonneg (by omega), Int.natAbs_of_nonneg (by omega)]
  omega
theorem ws_small {e r z : Nat → Int} {h Y : Int} (h0 : 0 ≤ h) (hY : 0 ≤ Y) : ∀ {n : Nat}, (∀ k, k < n → -h ≤ r k ∧ r k ≤ h) → (∀ k, k < n → -Y ≤ z k * e k ∧ z k * e k ≤ Y) → -(h * Y * n) ≤ ws e r z n ∧ ws e r z n ≤ h * Y * n
  | 0, _, _ => by simp [ws]
  | n + 1, hr, hz => by
    have ih := ws_small (e := e) h0 hY (n := n) (fun k hk => hr k (by omega)) (fun k hk => hz k (by omega))
    have h1 := mul_bd (hr n (by omega)) (hz n (by omega))
    rw [ws, show r n * z n * e n = r n * (z n * e n) by grind]
    have e1 : h * Y * ((n + 1 : Nat) : Int) = h * Y * n + h * Y := by rw [Int.natCast_add]; grind
    omega
end Go.Proofs.Ytadeadpcpgfkbaa.EA

/- ErrB -/
namespace Go.Proofs.Ytadeadpcpgfkbaa.EA
open Go.RowKit

def gr (W e : Nat → Int) (i l : Nat) : Int := ws e (rowJ W i) (rowJ W l) 48
theorem gr_comm (W e : Nat → Int) (i l : Nat) : gr W e i l = gr W e l i := ws_comm _ _ _ _
theorem mulv_near {a b : Int} (ha : -1152921504606846976 ≤ a ∧ a ≤ 1152921504606846976) (hb : -1152921504606846976 ≤ b ∧ b ≤ 1152921504606846976) (hp : -(1237940039285380274899124224 : Int) ≤ a * b ∧ a * b ≤ 1237940039285380274899124224) :
    mulh a b = false ∧ -536870912 ≤ 1073741824 * mulv a b - a * b ∧ 1073741824 * mulv a b - a * b ≤ 536870912 ∧ -1152921504606846976 ≤ mulv a b ∧ mulv a b ≤ 1152921504606846976 := by
  have h1 := satv_in ha.1 ha.2
  have h2 := satv_in hb.1 hb.2
  have hr := rnd_bd (a * b)
  have h3 := satv_in (a := rnd (a * b) 30) (by omega) (by omega)
  unfold mulh mulv
  rw [h1.1, h2.1, h1.2, h2.2, h3.1, h3.2]
  exact ⟨rfl, hr.1, hr.2, by omega, by omega⟩
def sz (e x : Nat → Int) : Nat → Int
  | 0 => 0
  | n + 1 => sz e x n + (if e n = 0 then 0 else ((x n).natAbs : Int))
theorem dot_near {x w e : Nat → Int} : ∀ {n : Nat}, (∀ k, k < n → -1152921504606846976 ≤ x k ∧ x k ≤ 1152921504606846976) → (∀ k, k < n → -1152921504606846976 ≤ w k ∧ w k ≤ 1152921504606846976) →
    (∀ k, k < n → 0 ≤ e k ∧ e k ≤ 1152921504606846976) → (∀ k, k < n → -(1237940039285380274899124224 : Int) ≤ w k * e k ∧ w k * e k ≤ 1237940039285380274899124224) →
    anyN (fun k => mulh (w k) (e k)) n = false ∧ anyP x (fun k => mulv (w k) (e k)) n = false ∧
    -(536870912 * sz e x n) ≤ 1073741824 * sumP x (fun k => mulv (w k) (e k)) n - ws e x w n ∧ 1073741824 * sumP x (fun k => mulv (w k) (e k)) n - ws e x w n ≤ 536870912 * sz e x n
  | 0, _, _, _, _ => by simp [anyN, anyP, sumP, ws, sz]
  | n + 1, hx, hw, he, hp => by
    obtain ⟨i1, i2, i3, i4⟩ := dot_near (n := n) (fun k hk => hx k (by omega)) (fun k hk => hw k (by omega)) (fun k hk => he k (by omega)) (fun k hk => hp k (by omega))
    have hxn := hx n (by omega)
    have hen := he n (by omega)
    obtain ⟨m1, m2, m3, m4, m5⟩ := mulv_near (hw n (by omega)) ⟨by omega, hen.2⟩ (hp n (by omega))
    have s1 := satv_in hxn.1 hxn.2
    have s2 := satv_in m4 m5
    refine ⟨by rw [anyN, i1, m1]; rfl, by rw [anyP, i2, s1.2, s2.2]; rfl, ?_⟩
    rw [sumP, ws, sz, s1.1, s2.1]
    by_cases e0 : e n = 0
    · have z : mulv (w n) (e n) = 0 := by rw [e0]; exact mulv_zero_r _
      rw [if_pos e0, z, e0, Int.mul_zero, Int.mul_zero]
      omega
    · rw [if_neg e0]
      have hb := mul_bd (a := x n) (b := 1073741824 * mulv (w n) (e n) - w n * e n) (A := ((x n).natAbs : Int)) (B := 536870912) (by omega) ⟨m2, m3⟩
      have e1 : x n * (1073741824 * mulv (w n) (e n) - w n * e n) = 1073741824 * (x n * mulv (w n) (e n)) - x n * w n * e n := by grind
      rw [e1] at hb
      generalize x n * mulv (w n) (e n) = P at *
      generalize x n * w n * e n = Q at *
      generalize ((x n).natAbs : Int) = a at *
      generalize sumP x (fun k => mulv (w k) (e k)) n = S at *
      generalize ws e x w n = V at *
      generalize sz e x n = Z at *
      omega
theorem divZ_near {v d : Int} (hd : 1 ≤ d) : -d ≤ 2 * (divZ v d * d - v) ∧ 2 * (divZ v d * d - v) ≤ d := by
  rw [divZ_sign, decide_eq_false (by omega : ¬ d < 0)]
  have hD : 0 < d.natAbs := by omega
  have hdv := Nat.div_add_mod v.natAbs d.natAbs
  have hm := Nat.mod_lt v.natAbs hD
  have hq : ((dq v.natAbs d.natAbs : Nat) : Int) * d = ((d.natAbs * (v.natAbs / d.natAbs) : Nat) : Int) + (if d.natAbs ≤ 2 * (v.natAbs % d.natAbs) then d else 0) := by
    unfold dq
    have e1 : ((d.natAbs : Nat) : Int) = d := by omega
    rw [Int.natCast_add, Int.natCast_mul, e1]
    split <;> grind
  generalize hQ : d.natAbs * (v.natAbs / d.natAbs) = Q at *
  generalize hR : v.natAbs % d.natAbs = R at *
  by_cases hv : v < 0
  · rw [decide_eq_true hv]
    simp only [show (true != false) = true from rfl, withSign, if_true]
    rw [Int.neg_mul, hq]
    split <;> omega
  · rw [decide_eq_false hv]
    simp only [bne_self_eq_false, withSign, Bool.false_eq_true, if_false]
    rw [hq]
    split <;> omega
end Go.Proofs.Ytadeadpcpgfkbaa.EA

/- ErrC -/
namespace Go.Proofs.Ytadeadpcpgfkbaa.EA
open Go.RowKit

structure Rw (e x : Nat → Int) : Prop where
  hx : ∀ k, k < 48 → -70368744177664 ≤ x k ∧ x k ≤ 70368744177664
  sq : ws e x x 48 ≤ 50715927529443459102067321208832
  sz : sz e x 48 ≤ 47674136985600
structure We (e : Nat → Int) : Prop where
  he : ∀ k, k < 48 → 0 ≤ e k ∧ e k ≤ 35184372088832
theorem Rw.we {e x : Nat → Int} (r : Rw e x) (h : We e) : ∀ k, k < 48 → -42501298345826806923264 ≤ x k * e k ∧ x k * e k ≤ 42501298345826806923264 := fun k hk => by
  have h1 := ws_term (e := e) (x := x) (n := 48) (fun k hk => (h.he k hk).1) hk
  have h2 := h.he k hk
  have h3 := r.sq
  have h4 : (x k * x k * e k) * e k ≤ 50715927529443459102067321208832 * 35184372088832 := Int.mul_le_mul (by omega) h2.2 h2.1 (by omega)
  refine le_of_sq (by omega) ?_
  have e1 : x k * e k * (x k * e k) = (x k * x k * e k) * e k := by grind
  rw [e1]
  omega
theorem cross {e x w : Nat → Int} (rx : Rw e x) (rw' : Rw e w) (h : We e) : -50715927529443459102067321208832 ≤ ws e x w 48 ∧ ws e x w 48 ≤ 50715927529443459102067321208832 := by
  have h1 := cauchy (e := e) (x := x) (y := w) (n := 48) (fun k hk => (h.he k hk).1)
  have h2 := ws_nn (e := e) (x := x) (n := 48) (fun k hk => (h.he k hk).1)
  have h3 := ws_nn (e := e) (x := w) (n := 48) (fun k hk => (h.he k hk).1)
  have h4 : ws e x x 48 * ws e w w 48 ≤ 50715927529443459102067321208832 * 50715927529443459102067321208832 := Int.mul_le_mul rx.sq rw'.sq h3 (by omega)
  exact le_of_sq (by omega) (by omega)
theorem dot_in {e x w : Nat → Int} (rx : Rw e x) (rw' : Rw e w) (h : We e) :
    anyN (fun k => mulh (w k) (e k)) 48 = false ∧ doth x (fun k => mulv (w k) (e k)) 48 = false ∧
    -25596010323776609714176 ≤ 1152921504606846976 * dotv x (fun k => mulv (w k) (e k)) 48 - ws e x w 48 ∧ 1152921504606846976 * dotv x (fun k => mulv (w k) (e k)) 48 - ws e x w 48 ≤ 25596010323776609714176 ∧
    -70368744177664 ≤ dotv x (fun k => mulv (w k) (e k)) 48 ∧ dotv x (fun k => mulv (w k) (e k)) 48 ≤ 70368744177664 := by
  have hw := rw'.we h
  obtain ⟨i1, i2, i3, i4⟩ := dot_near (e := e) (x := x) (w := w) (n := 48) (fun k hk => by have := rx.hx k hk; omega) (fun k hk => by have := rw'.hx k hk; omega) (fun k hk => by have := h.he k hk; omega) (fun k hk => by have := hw k hk; omega)
  have hc := cross rx rw' h
  have hs := rx.sz
  have hr := rnd_bd (sumP x (fun k => mulv (w k) (e k)) 48)
  unfold doth dotv
  rw [i2]
  generalize sumP x (fun k => mulv (w k) (e k)) 48 = S at *
  generalize ws e x w 48 = G at *
  generalize sz e x 48 = Z at *
  have s := satv_in (a := rnd S 30) (by omega) (by omega)
  rw [s.1, s.2]
  exact ⟨i1, rfl, by omega, by omega, by omega, by omega⟩
theorem quo_in {e x w : Nat → Int} (rx : Rw e x) (rw' : Rw e w) (h : We e) (hd : 19807040628566084398385987584 ≤ ws e w w 48) {d : Int} (ed : d = clampv (dotv w (fun k => mulv (w k) (e k)) 48) 1 72057594037927936) :
    d = dotv w (fun k => mulv (w k) (e k)) 48 ∧ clamph (dotv w (fun k => mulv (w k) (e k)) 48) 1 72057594037927936 = false ∧ 17179846983 ≤ d ∧ d ≤ 70368744177664 ∧
    quoh (dotv x (fun k => mulv (w k) (e k)) 48) d = false ∧
    -d ≤ 2 * (quov (dotv x (fun k => mulv (w k) (e k)) 48) d * d - 1073741824 * dotv x (fun k => mulv (w k) (e k)) 48) ∧ 2 * (quov (dotv x (fun k => mulv (w k) (e k)) 48) d * d - 1073741824 * dotv x (fun k => mulv (w k) (e k)) 48) ≤ d ∧
    -68719476736 ≤ quov (dotv x (fun k => mulv (w k) (e k)) 48) d ∧ quov (dotv x (fun k => mulv (w k) (e k)) 48) d ≤ 68719476736 := by
  obtain ⟨_, _, a3, a4, a5, a6⟩ := dot_in rw' rw' h
  obtain ⟨_, _, b3, b4, b5, b6⟩ := dot_in rx rw' h
  have hC := cauchy (e := e) (x := x) (y := w) (n := 48) (fun k hk => (h.he k hk).1)
  have hx0 := ws_nn (e := e) (x := x) (n := 48) (fun k hk => (h.he k hk).1)
  have hxx := rx.sq
  generalize dotv w (fun k => mulv (w k) (e k)) 48 = D at *
  generalize dotv x (fun k => mulv (w k) (e k)) 48 = a at *
  generalize ws e w w 48 = Gw at *
  generalize ws e x w 48 = Gx at *
  generalize ws e x x 48 = X at *
  have hD : 17179846983 ≤ D := by omega
  have e1 : clampv D 1 72057594037927936 = D := by unfold clampv; rw [if_neg (by omega), if_neg (by omega), if_neg (by omega)]
  have e2 : clamph D 1 72057594037927936 = false := by unfold clamph; rw [decide_eq_false (by omega), decide_eq_false (by omega), decide_eq_false (by omega)]; rfl
  rw [e1] at ed
  subst ed
  have hn := divZ_near (v := a * 1073741824) (d := d) (by omega)
  -- the size of the quotient
  have hG : -(73786976294838206464 * d - 4398046511104 * d) ≤ Gx ∧ Gx ≤ 73786976294838206464 * d - 4398046511104 * d := by
    refine le_of_sq (by omega) ?_
    have k1 : X * Gw ≤ 50715927529443459102067321208832 * (1152921504606846976 * d + 4398046511104 * d) := Int.mul_le_mul hxx (by omega) (by omega) (by omega)
    have k2 : 17179846983 * d ≤ d * d := Int.mul_le_mul_of_nonneg_right hD (by omega)
    have e3 : (73786976294838206464 * d - 4398046511104 * d) * (73786976294838206464 * d - 4398046511104 * d) = (73786976294838206464 - 4398046511104) * (73786976294838206464 - 4398046511104) * (d * d) := by grind
    rw [e3]
    omega
  have hq : -68719476736 ≤ divZ (a * 1073741824) d ∧ divZ (a * 1073741824) d ≤ 68719476736 := by
    generalize divZ (a * 1073741824) d = u at *
    constructor
    · rcases (show u < -68719476736 ∨ -68719476736 ≤ u by omega) with h1 | h1
      · exfalso
        have : u * d ≤ -68719476737 * d := Int.mul_le_mul_of_nonneg_right (by omega) (by omega)
        generalize u * d = ud at *
        omega
      · exact h1
    · rcases (show 68719476736 < u ∨ u ≤ 68719476736 by omega) with h1 | h1
      · exfalso
        have : 68719476737 * d ≤ u * d := Int.mul_le_mul_of_nonneg_right (by omega) (by omega)
        generalize u * d = ud at *
        omega
      · exact h1
  have s1 := satv_in (a := a) (by omega) (by omega)
  have s2 := satv_in (a := d) (by omega) (by omega)
  have s3 := satv_in (a := divZ (a * 1073741824) d) (by omega) (by omega)
  have eq1 : quov a d = divZ (a * 1073741824) d := by
    unfold quov divv
    rw [s1.1, s2.1, if_neg (by omega)]
    exact s3.1
  have eq2 : quoh a d = false := by
    unfold quoh divh
    rw [s1.1, s2.1, s1.2, s2.2, if_neg (by omega)]
    exact s3.2
  rw [eq1, eq2]
  generalize divZ (a * 1073741824) d = u at *
  generalize u * d = ud at *
  exact ⟨rfl, e2, hD, a6, rfl, by omega, by omega, hq.1, hq.2⟩
end Go.Proofs.Ytadeadpcpgfkbaa.EA

/- ErrD -/
namespace Go.Proofs.Ytadeadpcpgfkbaa.EA
open Go.RowKit

def rho (x x' w : Nat → Int) (u : Int) : Nat → Int := fun k => 1073741824 * x' k - 1073741824 * x k + u * w k
theorem take_in {x w : Nat → Int} {u : Int} {k : Nat} (hx : -70368744177664 ≤ x k ∧ x k ≤ 70368744177664) (hw : -70368744177664 ≤ w k ∧ w k ≤ 70368744177664) (hu : -68719476736 ≤ u ∧ u ≤ 68719476736) :
    mulh u (w k) = false ∧ subh (x k) (mulv u (w k)) = false ∧ -536870912 ≤ 1073741824 * subv (x k) (mulv u (w k)) - 1073741824 * x k + u * w k ∧ 1073741824 * subv (x k) (mulv u (w k)) - 1073741824 * x k + u * w k ≤ 536870912 := by
  have hp := mul_bd (a := u) (b := w k) (A := 68719476736) (B := 70368744177664) hu hw
  obtain ⟨m1, m2, m3, m4, m5⟩ := mulv_near (a := u) (b := w k) (by omega) (by omega) (by omega)
  generalize mulv u (w k) = m at *
  generalize u * w k = uw at *
  have s1 := satv_in (a := x k) (by omega) (by omega)
  have s2 := satv_in m4 m5
  have s3 := satv_in (a := x k - m) (by omega) (by omega)
  unfold subh subv
  rw [s1.1, s2.1, s1.2, s2.2, s3.1, s3.2]
  exact ⟨m1, rfl, by omega, by omega⟩
theorem take_we {e x w : Nat → Int} {u : Int} (rx : Rw e x) (rw' : Rw e w) (h : We e) (hu : -68719476736 ≤ u ∧ u ≤ 68719476736) {x' : Nat → Int} (hr : ∀ k, k < 48 → -536870912 ≤ rho x x' w u k ∧ rho x x' w u k ≤ 536870912) :
    ∀ k, k < 48 → -2805085690824569256935424 ≤ x' k * e k ∧ x' k * e k ≤ 2805085690824569256935424 := fun k hk => by
  have h1 := rx.we h k hk
  have h2 := rw'.we h k hk
  have h3 := mul_bd hu h2
  have h4 := mul_bd (a := rho x x' w u k) (b := e k) (A := 536870912) (B := 35184372088832) (hr k hk) (by have := h.he k hk; omega)
  have e1 : rho x x' w u k * e k = 1073741824 * (x' k * e k) - 1073741824 * (x k * e k) + u * (w k * e k) := by unfold rho; grind
  rw [e1] at h4
  generalize x' k * e k = a at *
  generalize x k * e k = b at *
  generalize u * (w k * e k) = c at *
  omega
theorem elim_near {Gn G Gx Gz Gw u v d R1 R2 Q Rb : Int} (hid : 1152921504606846976 * Gn = 1152921504606846976 * G - 1073741824 * v * Gx - 1073741824 * u * Gz + u * v * Gw + 1073741824 * R1 + 1073741824 * R2 - Q)
    (hu : -68719476736 ≤ u ∧ u ≤ 68719476736) (hv : -68719476736 ≤ v ∧ v ≤ 68719476736) (hx : -63374942186733771423744 ≤ 1073741824 * u * d - Gx ∧ 1073741824 * u * d - Gx ≤ 63374942186733771423744) (hz : -63374942186733771423744 ≤ 1073741824 * v * d - Gz ∧ 1073741824 * v * d - Gz ≤ 63374942186733771423744)
    (hw : -25596010323776609714176 ≤ 1152921504606846976 * d - Gw ∧ 1152921504606846976 * d - Gw ≤ 25596010323776609714176) (h1 : -Rb ≤ R1 ∧ R1 ≤ Rb) (h2 : -Rb ≤ R2 ∧ R2 ≤ Rb) (hq : -486777830487640090174734030864384 ≤ Q ∧ Q ≤ 486777830487640090174734030864384) :
    -(130226231962313388267152834041616144439181312 + 2147483648 * Rb) ≤ 1152921504606846976 * (Gn - G + u * v * d) ∧ 1152921504606846976 * (Gn - G + u * v * d) ≤ 130226231962313388267152834041616144439181312 + 2147483648 * Rb := by
  have b1 := mul_bd hv hx
  have b2 := mul_bd hu hz
  have b3 := mul_bd (mul_bd hu hv) hw
  have e1 : 1152921504606846976 * (Gn - G + u * v * d) = 1073741824 * (v * (1073741824 * u * d - Gx)) + 1073741824 * (u * (1073741824 * v * d - Gz)) - u * v * (1152921504606846976 * d - Gw) + 1073741824 * R1 + 1073741824 * R2 - Q := by grind
  rw [e1]
  generalize v * (1073741824 * u * d - Gx) = p1 at *
  generalize u * (1073741824 * v * d - Gz) = p2 at *
  generalize u * v * (1152921504606846976 * d - Gw) = p3 at *
  omega
theorem pair_near {e x z x' z' w : Nat → Int} {u v d Y : Int} (h : We e) (hu : -68719476736 ≤ u ∧ u ≤ 68719476736) (hv : -68719476736 ≤ v ∧ v ≤ 68719476736)
    (hx : -63374942186733771423744 ≤ 1073741824 * u * d - ws e x w 48 ∧ 1073741824 * u * d - ws e x w 48 ≤ 63374942186733771423744) (hz : -63374942186733771423744 ≤ 1073741824 * v * d - ws e z w 48 ∧ 1073741824 * v * d - ws e z w 48 ≤ 63374942186733771423744)
    (hw : -25596010323776609714176 ≤ 1152921504606846976 * d - ws e w w 48 ∧ 1152921504606846976 * d - ws e w w 48 ≤ 25596010323776609714176)
    (hr : ∀ k, k < 48 → -536870912 ≤ rho x x' w u k ∧ rho x x' w u k ≤ 536870912) (hs : ∀ k, k < 48 → -536870912 ≤ rho z z' w v k ∧ rho z z' w v k ≤ 536870912) (hY : 0 ≤ Y)
    (hx' : ∀ k, k < 48 → -Y ≤ x' k * e k ∧ x' k * e k ≤ Y) (hz' : ∀ k, k < 48 → -Y ≤ z' k * e k ∧ z' k * e k ≤ Y) :
    -(130226231962313388267152834041616144439181312 + 2147483648 * (536870912 * Y * 48)) ≤ 1152921504606846976 * (ws e x' z' 48 - ws e x z 48 + u * v * d) ∧ 1152921504606846976 * (ws e x' z' 48 - ws e x z 48 + u * v * d) ≤ 130226231962313388267152834041616144439181312 + 2147483648 * (536870912 * Y * 48) := by
  have hid := ws_elim e x z x' z' w 1073741824 u v 48
  have r1 := ws_small (e := e) (r := rho x x' w u) (z := z') (h := 536870912) (Y := Y) (n := 48) (by omega) hY hr hz'
  have r2 := ws_small (e := e) (r := rho z z' w v) (z := x') (h := 536870912) (Y := Y) (n := 48) (by omega) hY hs hx'
  have r3 := ws_small (e := e) (r := rho x x' w u) (z := rho z z' w v) (h := 536870912) (Y := 18889465931478580854784) (n := 48) (by omega) (by omega) hr (fun k hk => by
    have := mul_bd (a := rho z z' w v k) (b := e k) (A := 536870912) (B := 35184372088832) (hs k hk) (by have := h.he k hk; omega)
    omega)
  rw [ws_comm e (rho z z' w v) x'] at r2
  refine elim_near (Gx := ws e x w 48) (Gz := ws e z w 48) (Gw := ws e w w 48) (R1 := ws e (rho x x' w u) z' 48) (R2 := ws e x' (rho z z' w v) 48) (Q := ws e (rho x x' w u) (rho z z' w v) 48) ?_ hu hv hx hz hw (by omega) (by omega) (by omega)
  have e1 : (1073741824 * 1073741824 : Int) = 1152921504606846976 := by decide
  rw [e1] at hid
  exact hid
end Go.Proofs.Ytadeadpcpgfkbaa.EA

/- ErrE -/
namespace Go.Proofs.Ytadeadpcpgfkbaa.EA
open Go.RowKit

def sg (f : Nat → Int) : Nat → Int
  | 0 => 0
  | n + 1 => sg f n + f n
theorem sg_mono {f : Nat → Int} (h : ∀ k, 0 ≤ f k) : ∀ {n m : Nat}, n ≤ m → sg f n ≤ sg f m
  | n, 0, hm => by obtain rfl : n = 0 := by omega
                   exact Int.le_refl _
  | n, m + 1, hm => by
    by_cases e : n = m + 1
    · subst e; exact Int.le_refl _
    · have h1 := sg_mono h (n := n) (m := m) (by omega)
      have h2 := h m
      rw [sg]; omega
def ab (m : Nat → Int) : Nat → Int := fun c => ((m c).natAbs : Int)
theorem ab_nn (m : Nat → Int) (c : Nat) : 0 ≤ ab m c := by unfold ab; omega
def Rep (W0 : Nat → Int) (p : Int) (D : Nat → Nat → Int) (m x : Nat → Int) : Prop := ∀ k, k < 48 → p * 1073741824 * x k = sg (fun c => m c * (1073741824 * W0 (48 * c + k) + D c k)) 24
structure Tri (W0 : Nat → Int) (d : Nat) : Prop where
  up : ∀ c k, c < k → k < 24 → c ≠ d → -268435456 ≤ W0 (48 * c + k) ∧ W0 (48 * c + k) ≤ 268435456
  di : ∀ c, c < 24 → c ≠ d → W0 (48 * c + c) = 1073741824
  lo : ∀ c k, k < c → c < 24 → c ≠ d → W0 (48 * c + k) = 0
  no : ∀ c b, c < 24 → b < 24 → c ≠ d → W0 (48 * c + (24 + b)) = if b = c then 1073741824 else 0
theorem sum_tri {W0 : Nat → Int} {d : Nat} (t : Tri W0 d) {D : Nat → Nat → Int} {m : Nat → Int} (hD : ∀ c k, c < 24 → k < 48 → -12348030976 ≤ D c k ∧ D c k ≤ 12348030976) (hm : m d = 0) {k : Nat} (hk : k < 24) (hkd : k ≠ d) :
    ∀ {n : Nat}, n ≤ 24 → -(288230376151711744 * sg (ab m) (min n k) + 12348030976 * sg (ab m) n) ≤ sg (fun c => m c * (1073741824 * W0 (48 * c + k) + D c k)) n - (if k < n then 1152921504606846976 * m k else 0) ∧
      sg (fun c => m c * (1073741824 * W0 (48 * c + k) + D c k)) n - (if k < n then 1152921504606846976 * m k else 0) ≤ 288230376151711744 * sg (ab m) (min n k) + 12348030976 * sg (ab m) n
  | 0, _ => by simp [sg]
  | n + 1, hn => by
    have ih := sum_tri t hD hm hk hkd (n := n) (by omega)
    have hd := mul_bd (a := m n) (b := D n k) (A := ab m n) (B := 12348030976) (by unfold ab; omega) (hD n k (by omega) (by omega))
    rw [show sg (fun c => m c * (1073741824 * W0 (48 * c + k) + D c k)) (n + 1) = sg (fun c => m c * (1073741824 * W0 (48 * c + k) + D c k)) n + (1073741824 * (m n * W0 (48 * n + k)) + m n * D n k) from by rw [sg]; grind, show sg (ab m) (n + 1) = sg (ab m) n + ab m n from rfl]
    rcases Nat.lt_trichotomy n k with h | h | h
    · rw [if_neg (by omega)] at ih ⊢
      rw [show min (n + 1) k = n + 1 by omega, show sg (ab m) (n + 1) = sg (ab m) n + ab m n from rfl]
      rw [show min n k = n by omega] at ih
      by_cases e : n = d
      · subst e
        rw [hm] at hd ⊢
        have := ab_nn m n
        omega
      · have hw := mul_bd (a := m n) (b := W0 (48 * n + k)) (A := ab m n) (B := 268435456) (by unfold ab; omega) (t.up n k h hk e)
        generalize m n * W0 (48 * n + k) = y at *
        generalize m n * D n k = z at *
        omega
    · subst h
      rw [if_neg (by omega)] at ih
      rw [if_pos (by omega), show min (n + 1) n = n by omega, t.di n hk hkd]
      rw [show min n n = n by omega] at ih
      generalize m n * D n n = z at *
      omega
    · rw [if_pos h] at ih
      rw [if_pos (by omega), show min (n + 1) k = k by omega]
      rw [show min n k = k by omega] at ih
      by_cases e : n = d
      · subst e
        rw [hm] at hd ⊢
        have := ab_nn m n
        omega
      · rw [t.lo n k h (by omega) e, Int.mul_zero]
        generalize m n * D n k = z at *
        omega
theorem sum_own {W0 : Nat → Int} {d : Nat} (t : Tri W0 d) {D : Nat → Nat → Int} {m : Nat → Int} (hD : ∀ c k, c < 24 → k < 48 → -12348030976 ≤ D c k ∧ D c k ≤ 12348030976) (hm : m d = 0) {b : Nat} (hb : b < 24) :
    ∀ {n : Nat}, n ≤ 24 → -(12348030976 * sg (ab m) n) ≤ sg (fun c => m c * (1073741824 * W0 (48 * c + (24 + b)) + D c (24 + b))) n - (if b < n then 1152921504606846976 * m b else 0) ∧
      sg (fun c => m c * (1073741824 * W0 (48 * c + (24 + b)) + D c (24 + b))) n - (if b < n then 1152921504606846976 * m b else 0) ≤ 12348030976 * sg (ab m) n
  | 0, _ => by simp [sg]
  | n + 1, hn => by
    have ih := sum_own t hD hm hb (n := n) (by omega)
    have hd := mul_bd (a := m n) (b := D n (24 + b)) (A := ab m n) (B := 12348030976) (by unfold ab; omega) (hD n (24 + b) (by omega) (by omega))
    have e0 : m n * W0 (48 * n + (24 + b)) = if b = n then 1073741824 * m n else 0 := by
      by_cases e : n = d
      · subst e; rw [hm]; split <;> omega
      · rw [t.no n b (by omega) hb e]; split <;> omega
    rw [show sg (fun c => m c * (1073741824 * W0 (48 * c + (24 + b)) + D c (24 + b))) (n + 1) = sg (fun c => m c * (1073741824 * W0 (48 * c + (24 + b)) + D c (24 + b))) n + (1073741824 * (m n * W0 (48 * n + (24 + b))) + m n * D n (24 + b)) from by rw [sg]; grind, show sg (ab m) (n + 1) = sg (ab m) n + ab m n from rfl, e0]
    generalize m n * D n (24 + b) = z at *
    by_cases h : b = n
    · subst h
      rw [if_neg (by omega)] at ih
      rw [if_pos rfl, if_pos (by omega)]
      omega
    · rw [if_neg h]
      by_cases h2 : b < n
      · rw [if_pos h2] at ih
        rw [if_pos (by omega)]
        omega
      · rw [if_neg h2] at ih
        rw [if_neg (by omega)]
        omega
def bet : Nat → Int
  | 0 => 0
  | k + 1 => bet k + bet k / 4 + 1025
theorem bet_nn : ∀ k, 0 ≤ bet k
  | 0 => Int.le_refl _
  | k + 1 => by have := bet_nn k; rw [bet]; omega
theorem bet_24 : bet 24 ≤ 864800 := by decide
theorem grows {a : Nat → Int} {C : Int} (hC : 0 ≤ C) (h : ∀ k, k < 24 → 4611686018427387904 * a k ≤ 4 * C + 1152921504606846976 * sg a k) : ∀ {k : Nat}, k ≤ 24 → 1180591620717411303424 * sg a k ≤ bet k * C
  | 0, _ => by simp [sg, bet]
  | k + 1, hk => by
    have ih := grows hC h (k := k) (by omega)
    have h1 := h k (by omega)
    have hb := bet_nn k
    have h2 : 0 ≤ (4 * bet (k + 1) - 5 * bet k - 4096) * C := Int.mul_nonneg (by rw [bet]; omega) hC
    have e : (4 * bet (k + 1) - 5 * bet k - 4096) * C = 4 * (bet (k + 1) * C) - 5 * (bet k * C) - 4096 * C := by grind
    rw [e] at h2
    rw [sg]
    generalize bet (k + 1) * C = y at *
    generalize bet k * C = z at *
    omega
theorem of_p {p a b : Int} (hp : 0 < p) (h : p * a ≤ p * b) : a ≤ b := Int.le_of_mul_le_mul_left h hp
theorem rep_tri {W0 e : Nat → Int} {d : Nat} (t : Tri W0 d) (h : We e) (h34 : ∀ k, k < 24 → 17179869184 ≤ e k) {p : Int} (hp : 0 < p) {D : Nat → Nat → Int} {m x : Nat → Int} (hD : ∀ c k, c < 24 → k < 48 → -12348030976 ≤ D c k ∧ D c k ≤ 12348030976) (hm : m d = 0)
    (r : Rep W0 p D m x) (hB : ws e x x 48 ≤ 50715927529443459102067321208832) : Rw e x := by
  have hX : ∀ k, k < 24 → -54760833024 ≤ x k ∧ x k ≤ 54760833024 := fun k hk => by
    have h1 := ws_term (e := e) (x := x) (n := 48) (k := k) (fun k hk => (h.he k hk).1) (by omega)
    have h2 : x k * x k * 17179869184 ≤ x k * x k * e k := Int.mul_le_mul_of_nonneg_left (h34 k hk) (sq_nn _)
    exact le_of_sq (by omega) (by omega)
  -- the numbers m
  have hT0 : 0 ≤ sg (ab m) 24 := sg_mono (ab_nn m) (n := 0) (m := 24) (by omega)
  have hC : 0 ≤ p * 58798996734949195776 + 12348030976 * sg (ab m) 24 := by
    have : 0 ≤ p * 58798996734949195776 := Int.mul_nonneg (by omega) (by omega)
    omega
  have hg := grows (a := ab m) hC (fun k hk => by
    have hs0 : 0 ≤ sg (ab m) k := sg_mono (ab_nn m) (n := 0) (m := k) (by omega)
    by_cases e : k = d
    · subst e
      have : ab m k = 0 := by unfold ab; rw [hm]; rfl
      rw [this]
      omega
    · have h1 := sum_tri t hD hm hk e (n := 24) (Nat.le_refl _)
      rw [← r k (by omega), if_pos hk, show min 24 k = k by omega] at h1
      have h2 := mul_bd (a := p) (b := x k) (A := p) (B := 54760833024) (by omega) (hX k hk)
      have e1 : p * 1073741824 * x k = 1073741824 * (p * x k) := by grind
      rw [e1] at h1
      have e2 : ab m k = ((m k).natAbs : Int) := rfl
      generalize p * x k = y at *
      generalize m k = z at *
      generalize sg (ab m) 24 = T at *
      generalize sg (ab m) k = S at *
      omega) (k := 24) (Nat.le_refl _)
  have hb24 : bet 24 * (p * 58798996734949195776 + 12348030976 * sg (ab m) 24) ≤ 864800 * (p * 58798996734949195776 + 12348030976 * sg (ab m) 24) := Int.mul_le_mul_of_nonneg_right bet_24 hC
  have hT : 1152921504606846976 * sg (ab m) 24 ≤ 845 * (p * 58798996734949195776) := by omega
  have hone : ∀ b, b < 24 → (1152921504606846976 * m b = 1152921504606846976 * m b) ∧ p * (1073741824 * ((x (24 + b)).natAbs : Int)) ≤ 1152921504606846976 * ab m b + 12348030976 * sg (ab m) 24 := fun b hb => by
    refine ⟨rfl, ?_⟩
    have h1 := sum_own t hD hm hb (n := 24) (Nat.le_refl _)
    rw [← r (24 + b) (by omega), if_pos hb] at h1
    have e1 : p * 1073741824 * x (24 + b) = 1073741824 * (p * x (24 + b)) := by grind
    have e2 : p * (1073741824 * ((x (24 + b)).natAbs : Int)) = 1073741824 * ((p * x (24 + b)).natAbs : Int) := by
      rw [Int.natAbs_mul, Int.natCast_mul]
      have : ((p.natAbs : Nat) : Int) = p := by omega
      rw [this]; grind
    rw [e1] at h1
    rw [e2]
    have e3 : ab m b = ((m b).natAbs : Int) := rfl
    generalize p * x (24 + b) = y at *
    generalize m b = z at *
    generalize sg (ab m) 24 = T at *
    omega
  have hab : ∀ b, b < 24 → ab m b ≤ sg (ab m) 24 := fun b hb => by
    have h1 := sg_mono (ab_nn m) (n := b + 1) (m := 24) (by omega)
    have h2 : 0 ≤ sg (ab m) b := sg_mono (ab_nn m) (n := 0) (m := b) (by omega)
    rw [sg] at h1; omega
  refine ⟨fun k hk => ?_, hB, ?_⟩
  · by_cases h24 : k < 24
    · have := hX k h24; omega
    · have h1 := (hone (k - 24) (by omega)).2
      have h2 := hab (k - 24) (by omega)
      rw [show 24 + (k - 24) = k by omega] at h1
      have h3 : p * (1073741824 * ((x k).natAbs : Int)) ≤ p * (1073741824 * 70368744177664) := by
        generalize p * (1073741824 * ((x k).natAbs : Int)) = y at *
        omega
      have := of_p hp h3
      omega
  · have hs1 : ∀ n, n ≤ 24 → sz e x n ≤ 54760833024 * n := by
      intro n
      induction n with
      | zero => intro _; simp [sz]
      | succ n ih =>
        intro hn
        have i1 := ih (by omega)
        have i2 := hX n (by omega)
        rw [sz]; split <;> omega
    have hs2 : ∀ n, n ≤ 24 → p * (1073741824 * sz e x (24 + n)) ≤ p * (1073741824 * sz e x 24) + 1152921504606846976 * sg (ab m) n + 12348030976 * sg (ab m) 24 * n := by
      intro n
      induction n with
      | zero => intro _; simp [sg]
      | succ n ih =>
        intro hn
        have i1 := ih (by omega)
        have i2 := (hone n (by omega)).2
        rw [show 24 + (n + 1) = (24 + n) + 1 by omega, sz, show sg (ab m) (n + 1) = sg (ab m) n + ab m n from rfl]
        have i3 : p * (1073741824 * (sz e x (24 + n) + if e (24 + n) = 0 then 0 else ((x (24 + n)).natAbs : Int))) ≤ p * (1073741824 * sz e x (24 + n)) + p * (1073741824 * ((x (24 + n)).natAbs : Int)) := by
          rw [← Int.mul_add]
          refine Int.mul_le_mul_of_nonneg_left ?_ (by omega)
          split <;> omega
        have e1 : 12348030976 * sg (ab m) 24 * ((n + 1 : Nat) : Int) = 12348030976 * sg (ab m) 24 * n + 12348030976 * sg (ab m) 24 := by rw [Int.natCast_add]; grind
        rw [e1]
        omega
    have h1 := hs2 24 (Nat.le_refl _)
    have h2 := hs1 24 (Nat.le_refl _)
    have h3 : p * (1073741824 * sz e x 24) ≤ p * (1073741824 * (54760833024 * 24)) := Int.mul_le_mul_of_nonneg_left (by omega) (by omega)
    have h4 : p * (1073741824 * sz e x 48) ≤ p * (1073741824 * 47674136985600) := by
      rw [show 24 + 24 = 48 from rfl] at h1
      generalize p * (1073741824 * sz e x 48) = y at *
      generalize p * (1073741824 * sz e x 24) = z at *
      generalize sg (ab m) 24 = T at *
      omega
    have := of_p hp h4
    omega
end Go.Proofs.Ytadeadpcpgfkbaa.EA

/- ErrF -/
namespace Go.Proofs.Ytadeadpcpgfkbaa.EA
open Go.RowKit

theorem yF_fun (W e : Nat → Int) (j : Nat) : yF W e j = fun k => mulv (rowJ W j k) (e k) := rfl
theorem yH_fun (W e : Nat → Int) (j : Nat) : yH W e j = fun k => mulh (rowJ W j k) (e k) := rfl
theorem round_own {W e : Nat → Int} {j : Nat} (h : We e) (rj : Rw e (rowJ W j)) (hd : 19807040628566084398385987584 ≤ gr W e j j) :
    dH W e j = false ∧ 17179846983 ≤ dF W e j ∧ dF W e j ≤ 70368744177664 ∧ -25596010323776609714176 ≤ 1152921504606846976 * dF W e j - gr W e j j ∧ 1152921504606846976 * dF W e j - gr W e j j ≤ 25596010323776609714176 := by
  obtain ⟨a1, a2, a3, a4, a5, a6⟩ := dot_in rj rj h
  obtain ⟨b1, b2, b3, b4, _⟩ := quo_in rj rj h hd rfl
  have e1 : dF W e j = dotv (rowJ W j) (fun k => mulv (rowJ W j k) (e k)) 48 := b1
  unfold dH
  rw [e1, yF_fun, yH_fun, a1, a2, b2]
  refine ⟨rfl, by omega, a6, ?_⟩
  unfold gr
  omega
theorem round_other {W e : Nat → Int} {i j : Nat} (h : We e) (ri : Rw e (rowJ W i)) (rj : Rw e (rowJ W j)) (hd : 19807040628566084398385987584 ≤ gr W e j j) (hij : i < j) :
    uSH W e j i = false ∧ (∀ k, k < 48 → takH W j i (uS W e j i) k = false) ∧ -68719476736 ≤ uS W e j i ∧ uS W e j i ≤ 68719476736 ∧
    -63374942186733771423744 ≤ 1073741824 * uS W e j i * dF W e j - gr W e i j ∧ 1073741824 * uS W e j i * dF W e j - gr W e i j ≤ 63374942186733771423744 ∧
    ∀ k, k < 48 → -536870912 ≤ rho (rowJ W i) (rowJ (nexW W e j j) i) (rowJ W j) (uS W e j i) k ∧ rho (rowJ W i) (rowJ (nexW W e j j) i) (rowJ W j) (uS W e j i) k ≤ 536870912 := by
  obtain ⟨a1, a2, a3, a4, a5, a6⟩ := dot_in ri rj h
  obtain ⟨b1, b2, b3, b4, b5, b6, b7, b8, b9⟩ := quo_in ri rj h hd (d := dF W e j) rfl
  have eu : uS W e j i = quov (dotv (rowJ W i) (fun k => mulv (rowJ W j k) (e k)) 48) (dF W e j) := rfl
  rw [← eu] at b6 b7 b8 b9
  have hu : -68719476736 ≤ uS W e j i ∧ uS W e j i ≤ 68719476736 := ⟨b8, b9⟩
  have hk : ∀ k, k < 48 → takH W j i (uS W e j i) k = false ∧ -536870912 ≤ rho (rowJ W i) (rowJ (nexW W e j j) i) (rowJ W j) (uS W e j i) k ∧ rho (rowJ W i) (rowJ (nexW W e j j) i) (rowJ W j) (uS W e j i) k ≤ 536870912 := by
    intro k hk
    obtain ⟨t1, t2, t3, t4⟩ := take_in (x := rowJ W i) (w := rowJ W j) (k := k) (ri.hx k hk) (rj.hx k hk) hu
    have e1 : rowJ (nexW W e j j) i k = subv (rowJ W i k) (mulv (uS W e j i) (rowJ W j k)) := nexW_at hk hij hij (Nat.le_refl _)
    refine ⟨?_, ?_⟩
    · unfold takH
      have e2 : W (48 * j + k) = rowJ W j k := rfl
      have e3 : W (48 * i + k) = rowJ W i k := rfl
      rw [e2, e3, t1, t2]; rfl
    · unfold rho
      rw [e1]
      exact ⟨t3, t4⟩
  refine ⟨?_, fun k h => (hk k h).1, b8, b9, ?_, ?_, fun k h => (hk k h).2⟩
  · unfold uSH
    rw [yF_fun, a2, b5]; rfl
  · unfold gr
    have e4 : 1073741824 * uS W e j i * dF W e j = 1073741824 * (uS W e j i * dF W e j) := by grind
    rw [e4]
    generalize uS W e j i * dF W e j = ud at *
    omega
  · unfold gr
    have e4 : 1073741824 * uS W e j i * dF W e j = 1073741824 * (uS W e j i * dF W e j) := by grind
    rw [e4]
    generalize uS W e j i * dF W e j = ud at *
    omega
theorem mulh_zero {b : Int} (h : sath b = false) : mulh 0 b = false := by unfold mulh; rw [sath_zero, h, satv_zero, Int.zero_mul, rnd_zero, sath_zero]; rfl
theorem subh_zero {a : Int} (h : sath a = false) : subh a 0 = false := by
  unfold subh
  rw [h, sath_zero, satv_zero, Int.sub_zero, (satv_in (satv_lo a) (satv_hi a)).2]; rfl
theorem quoh_zero {d : Int} (hd : 1 ≤ d ∧ d ≤ 72057594037927936) : quoh 0 d = false := by
  rw [← quohZ_eq]
  unfold quohZ
  have h1 : satZ d = d := by rw [satZ_eq]; exact (satv_in (by omega) (by omega)).1
  have h2 : zeroI d = false := by
    cases h : zeroI d
    · rfl
    · have := zeroI_eq h; omega
  rw [h1, h2, sathZ_eq, (satv_in (a := d) (by omega) (by omega)).2]; rfl
theorem sath_in {a : Int} (h1 : -1152921504606846976 ≤ a) (h2 : a ≤ 1152921504606846976) : sath a = false := (satv_in h1 h2).2
theorem round_inert {W e : Nat → Int} {d i j : Nat} (I : Inert W d) (hd : d < 24) (hi : i < 24) (hj : j < 24) (hij : i < j) (hor : i = d ∨ j = d) (hy : ∀ k, k < 48 → sath (yF W e j k) = false) (hb : ∀ k, k < 48 → sath (W (48 * i + k)) = false ∧ sath (W (48 * j + k)) = false) :
    uS W e j i = 0 ∧ uSH W e j i = false ∧ (∀ k, k < 48 → takH W j i (uS W e j i) k = false) ∧ ∀ k, k < 48 → rowJ (nexW W e j j) i k = rowJ W i k := by
  have hu := I.u (e := e) hd hi hj (by omega) hor
  have hz : dotv (rowJ W i) (yF W e j) 48 = 0 ∧ doth (rowJ W i) (yF W e j) 48 = false := by
    have hs : sumP (rowJ W i) (yF W e j) 48 = 0 := by
      refine sumQ_none fun c hc => ?_
      rcases hor with rfl | rfl
      · by_cases e1 : c = 24 + i
        · right; unfold yF; rw [e1, I.no j hj (by omega), mulv_zero_l]
        · left; unfold rowJ; rw [I.own c hc, if_neg e1]
      · by_cases e1 : c = 24 + j
        · left; unfold rowJ; rw [e1]; exact I.no i hi (by omega)
        · right; unfold yF; rw [I.own c hc, if_neg e1, mulv_zero_l]
    have ha : anyP (rowJ W i) (yF W e j) 48 = false := by
      cases hc : anyP (rowJ W i) (yF W e j) 48
      · rfl
      · obtain ⟨k, hk, h⟩ := anyP_iff.1 hc
        have h1 : sath (rowJ W i k) = false := (hb k hk).1
        rw [h1, hy k hk] at h; cases h
    unfold dotv doth
    rw [hs, ha, rnd_zero, satv_zero, sath_zero]; exact ⟨rfl, rfl⟩
  refine ⟨hu, ?_, fun k hk => ?_, fun k hk => ?_⟩
  · unfold uSH
    rw [hz.1, hz.2, quoh_zero (dF_in W e j)]; rfl
  · unfold takH
    rw [hu, mulh_zero (hb k hk).2, mulv_zero_l, subh_zero (hb k hk).1]; rfl
  · have e1 : rowJ (nexW W e j j) i k = subv (rowJ W i k) (mulv (uS W e j i) (rowJ W j k)) := nexW_at hk hij hij (Nat.le_refl _)
    rw [e1, hu, mulv_zero_l, subv_zero_r]
    have := (hb k hk).1
    unfold sath at this
    simp at this
    exact (satv_in (a := rowJ W i k) (by unfold rowJ; omega) (by unfold rowJ; omega)).1
theorem inert_own {W e : Nat → Int} {d : Nat} (I : Inert W d) (hd : d < 24) (h : We e) (h1 : 1 ≤ e (24 + d)) :
    dH W e d = false ∧ dF W e d = e (24 + d) ∧ (∀ k, k < 48 → sath (yF W e d k) = false) := by
  have he := h.he (24 + d) (by omega)
  have s1 := satv_in (a := e (24 + d)) (by omega) (by omega)
  have hy : ∀ k, k < 48 → yF W e d k = if k = 24 + d then e (24 + d) else 0 := fun k hk => by
    unfold yF
    rw [I.own k hk]
    by_cases e1 : k = 24 + d
    · rw [if_pos e1, if_pos e1]
      unfold mulv
      rw [e1, s1.1, (satv_in (a := 1073741824) (by omega) (by omega)).1, rnd_ones, s1.1]
    · rw [if_neg e1, if_neg e1, mulv_zero_l]
  have hsy : ∀ k, k < 48 → sath (yF W e d k) = false := fun k hk => by
    rw [hy k hk]; split
    · exact s1.2
    · exact sath_zero
  have hs : sumP (rowJ W d) (yF W e d) 48 = 1073741824 * e (24 + d) := by
    rw [sumQ_one (c := 24 + d) (by omega) (fun c hc hne => .inl (by unfold rowJ; rw [I.own c hc, if_neg hne])), hy _ (by omega), if_pos rfl]
    unfold rowJ
    rw [I.own _ (by omega), if_pos rfl, s1.1, (satv_in (a := 1073741824) (by omega) (by omega)).1]
  have ha : anyP (rowJ W d) (yF W e d) 48 = false := by
    cases hc : anyP (rowJ W d) (yF W e d) 48
    · rfl
    · obtain ⟨k, hk, hx⟩ := anyP_iff.1 hc
      have h2 : sath (rowJ W d k) = false := by
        unfold rowJ; rw [I.own k hk]; split <;> decide
      rw [h2, hsy k hk] at hx; cases hx
  have hm : anyN (yH W e d) 48 = false := by
    cases hc : anyN (yH W e d) 48
    · rfl
    · obtain ⟨k, hk, hx⟩ := anyN_iff.1 hc
      have hek := h.he k hk
      have s2 := satv_in (a := e k) (by omega) (by omega)
      exfalso
      unfold yH at hx
      rw [I.own k hk] at hx
      by_cases e1 : k = 24 + d
      · rw [if_pos e1] at hx
        unfold mulh at hx
        rw [s2.2, s2.1, (satv_in (a := 1073741824) (by omega) (by omega)).1, (satv_in (a := 1073741824) (by omega) (by omega)).2, rnd_ones, s2.2] at hx
        cases hx
      · rw [if_neg e1, mulh_zero s2.2] at hx; cases hx
  have hD : dotv (rowJ W d) (yF W e d) 48 = e (24 + d) ∧ doth (rowJ W d) (yF W e d) 48 = false := by
    unfold dotv doth
    rw [hs, ha, rnd_ones, s1.1, s1.2]; exact ⟨rfl, rfl⟩
  refine ⟨?_, ?_, hsy⟩
  · unfold dH clamph
    rw [hm, hD.1, hD.2, decide_eq_false (by omega), decide_eq_false (by omega), decide_eq_false (by omega)]; rfl
  · unfold dF clampv
    rw [hD.1, if_neg (by omega), if_neg (by omega), if_neg (by omega)]
end Go.Proofs.Ytadeadpcpgfkbaa.EA

/- ErrG -/
namespace Go.Proofs.Ytadeadpcpgfkbaa.EA
open Go.RowKit

def Pn (W0 e : Nat → Int) (i l : Nat) : Nat → Int
  | 0 => 0
  | n + 1 => Pn W0 e i l n + uS (stW W0 e n) e (23 - n) i * uS (stW W0 e n) e (23 - n) l * dF (stW W0 e n) e (23 - n)
structure Bg (W0 e : Nat → Int) (d : Nat) (col : Nat → Nat) : Prop where
  we : We e
  dead : d < 24 → Inert W0 d ∧ 1 ≤ e (24 + d)
  gb : ∀ i, i < 24 → i ≠ d → gr W0 e i i ≤ 50706024009129176059868128215040
  one : ∀ j, j < 24 → j ≠ d → col j < 48 ∧ 17179869184 ≤ e (col j) ∧ W0 (48 * j + col j) = 1073741824 ∧ ∀ i, j < i → i < 24 → i ≠ d → W0 (48 * i + col j) = 0
  mode : ∀ (p : Int) (D : Nat → Nat → Int) (m x : Nat → Int), 0 < p → (∀ c k, c < 24 → k < 48 → -12348030976 ≤ D c k ∧ D c k ≤ 12348030976) → m d = 0 → Rep W0 p D m x → ws e x x 48 ≤ 50715927529443459102067321208832 → Rw e x
structure Iv (W0 e : Nat → Int) (d : Nat) (col : Nat → Nat) (n : Nat) : Prop where
  gb : ∀ i, i + n < 24 → i ≠ d → gr (stW W0 e n) e i i ≤ 50706024009129176059868128215040 + 309485009821345068724781056 * n
  near : ∀ i l, i + n < 24 → l + n < 24 → i ≠ d → l ≠ d → -(115225742182019343214182400 * n : Int) ≤ gr (stW W0 e n) e i l + Pn W0 e i l n - gr W0 e i l ∧ gr (stW W0 e n) e i l + Pn W0 e i l n - gr W0 e i l ≤ 115225742182019343214182400 * n
  rep : ∃ (p : Int) (D : Nat → Nat → Int) (m : Nat → Nat → Int), 0 < p ∧ (∀ c k, c < 24 → k < 48 → -(536870912 * n : Int) ≤ D c k ∧ D c k ≤ 536870912 * n) ∧
    ∀ i, i + n < 24 → i ≠ d → m i d = 0 ∧ (∀ c, c < i → m i c = 0) ∧ (∀ c, i < c → c + n < 24 → m i c = 0) ∧ m i i = p ∧ Rep W0 p D (m i) (rowJ (stW W0 e n) i)
  hit : stH W0 e n = false
  one : ∀ j, j + n < 24 → j ≠ d → stW W0 e n (48 * j + col j) = 1073741824 ∧ ∀ i, j < i → i + n < 24 → i ≠ d → stW W0 e n (48 * i + col j) = 0
  dead : d < 24 → Inert (stW W0 e n) d
theorem sg_one {f : Nat → Int} {i : Nat} : ∀ {n : Nat}, i < n → (∀ k, k < n → k ≠ i → f k = 0) → sg f n = f i
  | 0, h, _ => by omega
  | n + 1, h, hz => by
    rw [sg]
    by_cases e : i = n
    · subst e
      have : sg f i = 0 := by
        have : ∀ m, m ≤ i → sg f m = 0 := by
          intro m
          induction m with
          | zero => intro _; rfl
          | succ m ih => intro hm; rw [sg, ih (by omega), hz m (by omega) (by omega)]; rfl
        exact this i (Nat.le_refl _)
      omega
    · rw [sg_one (n := n) (by omega) (fun k hk => hz k (by omega)), hz n (by omega) (by omega)]; omega
theorem Iv.zero {W0 e : Nat → Int} {d : Nat} {col : Nat → Nat} (b : Bg W0 e d col) : Iv W0 e d col 0 where
  gb := fun i hi hd => by have := b.gb i hi hd; show gr W0 e i i ≤ _; omega
  near := fun i l _ _ _ _ => by
    show _ ≤ gr W0 e i l + 0 - gr W0 e i l ∧ gr W0 e i l + 0 - gr W0 e i l ≤ _
    omega
  rep := ⟨1, fun _ _ => 0, fun i c => if c = i then 1 else 0, by omega, fun c k _ _ => by simp, fun i hi hd => ⟨if_neg (by omega), fun c hc => if_neg (by omega), fun c hc _ => if_neg (by omega), if_pos rfl, fun k hk => by
    rw [sg_one (i := i) (n := 24) (by omega) (fun c _ hne => by dsimp only; rw [if_neg hne, Int.zero_mul])]
    dsimp only
    rw [if_pos rfl]
    show 1 * 1073741824 * W0 (48 * i + k) = _
    omega⟩⟩
  hit := rfl
  one := fun j hj hd => ⟨(b.one j hj hd).2.2.1, fun i h1 h2 h3 => (b.one j hj hd).2.2.2 i h1 h2 h3⟩
  dead := fun hd => (b.dead hd).1
theorem Iv.row {W0 e : Nat → Int} {d : Nat} {col : Nat → Nat} (b : Bg W0 e d col) {n : Nat} (v : Iv W0 e d col n) {i : Nat} (hi : i + n < 24) (hd : i ≠ d) : Rw e (rowJ (stW W0 e n) i) := by
  obtain ⟨p, D, m, hp, hD, hm⟩ := v.rep
  obtain ⟨h1, _, _, _, h5⟩ := hm i hi hd
  refine b.mode p D (m i) _ hp (fun c k hc hk => by have := hD c k hc hk; omega) h1 h5 ?_
  have := v.gb i hi hd
  unfold gr at this
  omega
theorem Iv.big {W0 e : Nat → Int} {d : Nat} {col : Nat → Nat} (b : Bg W0 e d col) {n : Nat} (v : Iv W0 e d col n) {j : Nat} (hj : j + n < 24) (hd : j ≠ d) : 19807040628566084398385987584 ≤ gr (stW W0 e n) e j j := by
  obtain ⟨h1, h2, _, _⟩ := b.one j (by omega) hd
  have h3 := (v.one j hj hd).1
  have h4 := ws_term (e := e) (x := rowJ (stW W0 e n) j) (n := 48) (k := col j) (fun k hk => (b.we.he k hk).1) h1
  have h5 : rowJ (stW W0 e n) j (col j) = 1073741824 := h3
  rw [h5] at h4
  unfold gr
  omega
theorem Iv.next {W0 e : Nat → Int} {d : Nat} {col : Nat → Nat} (b : Bg W0 e d col) {n : Nat} (hn : n < 24) (v : Iv W0 e d col n) : Iv W0 e d col (n + 1) := by
  have hW : stW W0 e (n + 1) = nexW (stW W0 e n) e (23 - n) (23 - n) := rfl
  obtain ⟨j, hj⟩ : ∃ j, j = 23 - n := ⟨_, rfl⟩
  have hjn : j + n = 23 := by omega
  have hrow := fun i (hi : i + n < 24) (hd : i ≠ d) => v.row b hi hd
  rw [← hj] at hW
  have hP : ∀ i l, Pn W0 e i l (n + 1) = Pn W0 e i l n + uS (stW W0 e n) e j i * uS (stW W0 e n) e j l * dF (stW W0 e n) e j := fun i l => by rw [hj]; rfl
  have hH : stH W0 e (n + 1) = (stH W0 e n || (dH (stW W0 e n) e j || nexH (stW W0 e n) e j j)) := by rw [hj]; rfl
  obtain ⟨p, D, m, hp, hD, hm⟩ := v.rep
  by_cases hjd : j = d
  · -- the inert row's own round
    have hd : d < 24 := by omega
    obtain ⟨I0, he⟩ := b.dead hd
    have I := v.dead hd
    obtain ⟨o1, o2, o3⟩ := inert_own I hd b.we he
    have hr := fun i (hi : i < d) => round_inert (e := e) I hd (show i < 24 by omega) hd hi (.inr rfl) o3 (fun k hk => by
      have h1 := (hrow i (by omega) (by omega)).hx k hk
      have h2 : stW W0 e n (48 * i + k) = rowJ (stW W0 e n) i k := rfl
      refine ⟨by rw [h2]; exact sath_in (by omega) (by omega), ?_⟩
      rw [I.own k hk]; split <;> decide)
    rw [hjd] at hW hP hH
    have hsame : ∀ i, i < d → ∀ k, k < 48 → rowJ (stW W0 e (n + 1)) i k = rowJ (stW W0 e n) i k := fun i hi k hk => by rw [hW]; exact (hr i hi).2.2.2 k hk
    have hgr : ∀ i l, i < d → l < d → gr (stW W0 e (n + 1)) e i l = gr (stW W0 e n) e i l := fun i l hi hl => ws_congr (hsame i hi) (hsame l hl)
    refine ⟨fun i hi hid => ?_, fun i l hi hl hid hld => ?_, ⟨p, D, m, hp, fun c k hc hk => by have := hD c k hc hk; omega, fun i hi hid => ?_⟩, ?_, fun q hq hqd => ?_, fun _ => ?_⟩
    · rw [hgr i i (by omega) (by omega)]
      have := v.gb i (by omega) hid
      omega
    · rw [hgr i l (by omega) (by omega), hP, (hr i (by omega)).1, Int.zero_mul, Int.zero_mul, Int.add_zero]
      have := v.near i l (by omega) (by omega) hid hld
      omega
    · obtain ⟨h1, h2, h3, h4, h5⟩ := hm i (by omega) hid
      exact ⟨h1, h2, fun c hc hc2 => h3 c hc (by omega), h4, fun k hk => by rw [hsame i (by omega) k hk]; exact h5 k hk⟩
    · rw [hH, v.hit, o1, nexH_any _ _ (Nat.le_refl _)]
      have a1 : anyN (uSH (stW W0 e n) e d) d = false := by
        cases hc : anyN (uSH (stW W0 e n) e d) d
        · rfl
        · obtain ⟨i, hi, hx⟩ := anyN_iff.1 hc
          rw [(hr i hi).2.1] at hx; cases hx
      have a2 : anyN (fun i => anyN (takH (stW W0 e n) d i (uS (stW W0 e n) e d i)) 48) d = false := by
        cases hc : anyN (fun i => anyN (takH (stW W0 e n) d i (uS (stW W0 e n) e d i)) 48) d
        · rfl
        · obtain ⟨i, hi, hx⟩ := anyN_iff.1 hc
          obtain ⟨k, hk, hx2⟩ := anyN_iff.1 hx
          rw [(hr i hi).2.2.1 k hk] at hx2; cases hx2
      rw [a1, a2]; rfl
    · obtain ⟨h1, h2⟩ := v.one q (by omega) hqd
      have hc := (b.one q (by omega) hqd).1
      exact ⟨(hsame q (by omega) _ hc).trans h1, fun i hi hi2 hid => (hsame i (by omega) _ hc).trans (h2 i hi (by omega) hid)⟩
    · rw [hW]; exact I.next hd hd
  · -- the round of a row that is not
    have rj := hrow j (by omega) hjd
    have hbig := v.big b (j := j) (by omega) hjd
    obtain ⟨o1, o2, o3, o4, o5⟩ := round_own b.we rj hbig
    have hr := fun i (hi : i < j) (hid : i ≠ d) => round_other b.we (hrow i (by omega) hid) rj hbig hi
    have hsy : ∀ k, k < 48 → sath (yF (stW W0 e n) e j k) = false := fun k hk => by
      have h1 := (dot_in rj rj b.we).2.1
      unfold doth at h1
      rw [Bool.or_eq_false_iff] at h1
      cases hc : sath (yF (stW W0 e n) e j k)
      · rfl
      · rw [yF_fun] at hc
        have : anyP (rowJ (stW W0 e n) j) (fun k => mulv (rowJ (stW W0 e n) j k) (e k)) 48 = true := anyP_iff.2 ⟨k, hk, by dsimp only at hc ⊢; rw [hc, Bool.or_true]⟩
        rw [this] at h1; cases h1.1
    have hdr := fun (hd : d < j) => round_inert (e := e) (v.dead (by omega)) (show d < 24 by omega) (show d < 24 by omega) (show j < 24 by omega) hd (.inl rfl) hsy (fun k hk => by
      have h1 := rj.hx k hk
      have h2 : stW W0 e n (48 * j + k) = rowJ (stW W0 e n) j k := rfl
      refine ⟨?_, by rw [h2]; exact sath_in (by omega) (by omega)⟩
      rw [(v.dead (by omega)).own k hk]; split <;> decide)
    have hrow' : ∀ i, rowJ (stW W0 e (n + 1)) i = rowJ (nexW (stW W0 e n) e j j) i := fun i => by rw [hW]
    generalize hu : (fun i => uS (stW W0 e n) e j i) = u at *
    have hue : ∀ i, uS (stW W0 e n) e j i = u i := fun i => by rw [← hu]
    -- squares
    have hd0 : (0 : Int) ≤ dF (stW W0 e n) e j := by omega
    have hgb : ∀ i, i + (n + 1) < 24 → i ≠ d → gr (stW W0 e (n + 1)) e i i ≤ 50706024009129176059868128215040 + 309485009821345068724781056 * (n + 1 : Nat) := fun i hi hid => by
      obtain ⟨r1, r2, r3, r4, r5, r6, r7⟩ := hr i (by omega) hid
      have hwe := take_we (hrow i (by omega) hid) rj b.we ⟨r3, r4⟩ r7
      have hp := (pair_near (x := rowJ (stW W0 e n) i) (z := rowJ (stW W0 e n) i) (w := rowJ (stW W0 e n) j) b.we ⟨r3, r4⟩ ⟨r3, r4⟩ ⟨r5, r6⟩ ⟨r5, r6⟩ ⟨o4, o5⟩ r7 r7 (by omega) hwe hwe).2
      have hv := v.gb i (by omega) hid
      have hsq : 0 ≤ uS (stW W0 e n) e j i * uS (stW W0 e n) e j i * dF (stW W0 e n) e j := Int.mul_nonneg (sq_nn _) hd0
      unfold gr at hv ⊢
      rw [hrow']
      generalize uS (stW W0 e n) e j i * uS (stW W0 e n) e j i * dF (stW W0 e n) e j = q at *
      omega
    -- the new rows
    have hrep : ∃ (p : Int) (D : Nat → Nat → Int) (m : Nat → Nat → Int), 0 < p ∧ (∀ c k, c < 24 → k < 48 → -(536870912 * (n + 1 : Nat) : Int) ≤ D c k ∧ D c k ≤ 536870912 * (n + 1 : Nat)) ∧
        ∀ i, i + (n + 1) < 24 → i ≠ d → m i d = 0 ∧ (∀ c, c < i → m i c = 0) ∧ (∀ c, i < c → c + (n + 1) < 24 → m i c = 0) ∧ m i i = p ∧ Rep W0 p D (m i) (rowJ (stW W0 e (n + 1)) i) := by
      refine ⟨1073741824 * p, fun c k => if c < j ∧ c ≠ d then D c k + rho (rowJ (stW W0 e n) c) (rowJ (nexW (stW W0 e n) e j j) c) (rowJ (stW W0 e n) j) (u c) k else D c k, fun i c => 1073741824 * m i c - u i * m j c, by omega, fun c k hc hk => ?_, fun i hi hid => ?_⟩
      · have h1 := hD c k hc hk
        dsimp only
        split
        · rename_i h
          have h2 := (hr c h.1 h.2).2.2.2.2.2.2 k hk
          rw [hue] at h2
          omega
        · omega
      · obtain ⟨h1, h2, h3, h4, h5⟩ := hm i (by omega) hid
        obtain ⟨g1, g2, g3, g4, g5⟩ := hm j (by omega) hjd
        refine ⟨by dsimp only; rw [h1, g1]; omega, fun c hc => by dsimp only; rw [h2 c hc, g2 c (by omega)]; omega, fun c hc hc2 => by dsimp only; rw [h3 c hc (by omega), g2 c (by omega)]; omega, by dsimp only; rw [h4, g2 i (by omega)]; omega, fun k hk => ?_⟩
        have e1 := h5 k hk
        have e2 := g5 k hk
        rw [hrow']
        -- the sum, split
        have hsplit : ∀ N, sg (fun c => (1073741824 * m i c - u i * m j c) * (1073741824 * W0 (48 * c + k) + (if c < j ∧ c ≠ d then D c k + rho (rowJ (stW W0 e n) c) (rowJ (nexW (stW W0 e n) e j j) c) (rowJ (stW W0 e n) j) (u c) k else D c k))) N =
            1073741824 * sg (fun c => m i c * (1073741824 * W0 (48 * c + k) + D c k)) N - u i * sg (fun c => m j c * (1073741824 * W0 (48 * c + k) + D c k)) N +
            sg (fun c => (1073741824 * m i c - u i * m j c) * (if c < j ∧ c ≠ d then rho (rowJ (stW W0 e n) c) (rowJ (nexW (stW W0 e n) e j j) c) (rowJ (stW W0 e n) j) (u c) k else 0)) N := by
          intro N
          induction N with
          | zero => simp [sg]
          | succ N ih =>
            simp only [sg]
            rw [ih]
            by_cases h : N < j ∧ N ≠ d
            · rw [if_pos h, if_pos h]; grind
            · rw [if_neg h, if_neg h]; grind
        have hlast : sg (fun c => (1073741824 * m i c - u i * m j c) * (if c < j ∧ c ≠ d then rho (rowJ (stW W0 e n) c) (rowJ (nexW (stW W0 e n) e j j) c) (rowJ (stW W0 e n) j) (u c) k else 0)) 24 = 1073741824 * p * rho (rowJ (stW W0 e n) i) (rowJ (nexW (stW W0 e n) e j j) i) (rowJ (stW W0 e n) j) (u i) k := by
          rw [sg_one (i := i) (by omega) (fun c hc hne => ?_)]
          · rw [if_pos ⟨by omega, hid⟩, h4, g2 i (by omega)]; grind
          · by_cases h : c < j ∧ c ≠ d
            · rw [if_pos h, g2 c h.1]
              by_cases hci : c < i
              · rw [h2 c hci]; simp
              · rw [h3 c (by omega) (by omega)]; simp
            · rw [if_neg h, Int.mul_zero]
        rw [hsplit 24, hlast, ← e1, ← e2]
        unfold rho
        grind
    have hrw' : ∀ i, i + (n + 1) < 24 → i ≠ d → Rw e (rowJ (nexW (stW W0 e n) e j j) i) := fun i hi hid => by
      obtain ⟨p', D', m', hp', hD', hm'⟩ := hrep
      obtain ⟨h1, _, _, _, h5⟩ := hm' i hi hid
      rw [hrow'] at h5
      refine b.mode p' D' (m' i) _ hp' (fun c k hc hk => by have := hD' c k hc hk; omega) h1 h5 ?_
      have := hgb i hi hid
      unfold gr at this
      rw [hrow'] at this
      omega
    refine ⟨hgb, fun i l hi hl hid hld => ?_, hrep, ?_, fun q hq hqd => ?_, fun hd => ?_⟩
    · obtain ⟨r1, r2, r3, r4, r5, r6, r7⟩ := hr i (by omega) hid
      obtain ⟨s1, s2, s3, s4, s5, s6, s7⟩ := hr l (by omega) hld
      have hp := pair_near (x := rowJ (stW W0 e n) i) (z := rowJ (stW W0 e n) l) (w := rowJ (stW W0 e n) j) (Y := 42501298345826806923264) b.we ⟨r3, r4⟩ ⟨s3, s4⟩ ⟨r5, r6⟩ ⟨s5, s6⟩ ⟨o4, o5⟩ r7 s7 (by omega) ((hrw' i hi hid).we b.we) ((hrw' l hl hld).we b.we)
      have hv := v.near i l (by omega) (by omega) hid hld
      rw [hP]
      unfold gr at hv ⊢
      rw [hrow', hrow']
      generalize uS (stW W0 e n) e j i * uS (stW W0 e n) e j l * dF (stW W0 e n) e j = q at *
      omega
    · rw [hH, v.hit, o1, nexH_any _ _ (Nat.le_refl _)]
      have a1 : anyN (uSH (stW W0 e n) e j) j = false := by
        cases hc : anyN (uSH (stW W0 e n) e j) j
        · rfl
        · obtain ⟨i, hi, hx⟩ := anyN_iff.1 hc
          by_cases hid : i = d
          · subst hid; rw [(hdr hi).2.1] at hx; cases hx
          · rw [(hr i hi hid).1] at hx; cases hx
      have a2 : anyN (fun i => anyN (takH (stW W0 e n) j i (uS (stW W0 e n) e j i)) 48) j = false := by
        cases hc : anyN (fun i => anyN (takH (stW W0 e n) j i (uS (stW W0 e n) e j i)) 48) j
        · rfl
        · obtain ⟨i, hi, hx⟩ := anyN_iff.1 hc
          obtain ⟨k, hk, hx2⟩ := anyN_iff.1 hx
          by_cases hid : i = d
          · subst hid; rw [(hdr hi).2.2.1 k hk] at hx2; cases hx2
          · rw [(hr i hi hid).2.1 k hk] at hx2; cases hx2
      rw [a1, a2]; rfl
    · obtain ⟨h1, h2⟩ := v.one q (by omega) hqd
      obtain ⟨hc, _, _, _⟩ := b.one q (by omega) hqd
      have hj0 := h2 j (by omega) (by omega) hjd
      have hset : ∀ i, i < j → i ≠ d → stW W0 e (n + 1) (48 * i + col q) = satv (stW W0 e n (48 * i + col q)) := fun i hi hid => by
        rw [hW, nexW_at hc hi hi (Nat.le_refl _), hj0, mulv_zero_r, subv_zero_r]
      refine ⟨by rw [hset q (by omega) hqd, h1]; exact (satv_in (by omega) (by omega)).1, fun i hi hi2 hid => ?_⟩
      rw [hset i (by omega) hid, h2 i hi (by omega) hid, satv_zero]
    · rw [hW]; exact (v.dead hd).next hd (by omega)
theorem Iv.all {W0 e : Nat → Int} {d : Nat} {col : Nat → Nat} (b : Bg W0 e d col) : ∀ n, n ≤ 24 → Iv W0 e d col n
  | 0, _ => Iv.zero b
  | n + 1, hn => (Iv.all b n (by omega)).next b (by omega)
end Go.Proofs.Ytadeadpcpgfkbaa.EA

/- ErrH -/
namespace Go.Proofs.Ytadeadpcpgfkbaa.EA
open Go.RowKit

theorem exS_front (f : Nat → Int) (i j : Int) (m : Nat) : ∀ n, exS f i j m (n + 1) = uF f i (m : Int) * uF f j (m : Int) * f (276 + m) + exS f i j (m + 1) n
  | 0 => by simp [exS]
  | n + 1 => by
    rw [exS, exS_front f i j m n, exS]
    rw [show m + (n + 1) = m + 1 + n by omega]
    omega
theorem uF_num {f : Nat → Int} {i c : Nat} (hi : i < c) (hc : c < 24) : uF f (i : Int) (c : Int) = f (plcN c + i) := by
  unfold uF
  rw [(aboveB_iff _ _).2 (by omega), cond_true, plc_N i hc]
theorem uF_diag {f : Nat → Int} {i : Nat} (hi : i < 24) : uF f (i : Int) (i : Int) = 1073741824 := by
  unfold uF
  rw [(aboveB_no _ _).2 (by omega), cond_false, decide_eq_true rfl, (inN_iff _).2 (by omega)]; rfl
theorem uF_below {f : Nat → Int} {i c : Nat} (hi : c < i) : uF f (i : Int) (c : Int) = 0 := by
  unfold uF
  rw [(aboveB_no _ _).2 (by omega), cond_false, decide_eq_false (by omega), Bool.false_and]; rfl
section
variable {W0 e : Nat → Int} {d : Nat} {col : Nat → Nat}
theorem out_u {i c : Nat} (hi : i < c) (hc : c < 24) : uF (stO W0 e 24) (i : Int) (c : Int) = uS (stW W0 e (23 - c)) e c i := by
  rw [uF_num hi hc]; exact stO_num W0 e 24 c i (by omega) (by omega) hc hi
theorem out_d {c : Nat} (hc : c < 24) : stO W0 e 24 (276 + c) = dF (stW W0 e (23 - c)) e c := stO_var W0 e 24 c (by omega) (by omega) hc
theorem Pn_ex (i l : Nat) : ∀ n, i + n < 24 → l + n < 24 → Pn W0 e i l n = exS (stO W0 e 24) (i : Int) (l : Int) (24 - n) n
  | 0, _, _ => rfl
  | n + 1, hi, hl => by
    rw [Pn, Pn_ex i l n (by omega) (by omega), exS_front, show 24 - (n + 1) + 1 = 24 - n by omega, show 24 - (n + 1) = 23 - n by omega, out_u (by omega) (by omega), out_u (by omega) (by omega), out_d (by omega), show 23 - (23 - n) = n by omega]
    omega
theorem ex_near (b : Bg W0 e d col) {i l : Nat} (hil : i ≤ l) (hl : l < 24) (hid : i ≠ d) (hld : l ≠ d) :
    -(2765417812368464237140377600 : Int) ≤ exS (stO W0 e 24) (i : Int) (l : Int) l (24 - l) - gr W0 e i l ∧ exS (stO W0 e 24) (i : Int) (l : Int) l (24 - l) - gr W0 e i l ≤ 2765417812368464237140377600 := by
  have v := Iv.all b (23 - l) (by omega)
  have hn := v.near i l (by omega) (by omega) hid hld
  have rl := v.row b (i := l) (by omega) hld
  have hb := v.big b (j := l) (by omega) hld
  obtain ⟨o1, o2, o3, o4, o5⟩ := round_own b.we rl hb
  rw [show 24 - l = (23 - l) + 1 by omega, exS_front, uF_diag hl, out_d hl, show l + 1 = 24 - (23 - l) by omega, ← Pn_ex i l (23 - l) (by omega) (by omega)]
  have hk : ((23 - l : Nat) : Int) ≤ 23 := by omega
  have hk0 : (0 : Int) ≤ ((23 - l : Nat) : Int) := by omega
  rcases Nat.lt_or_eq_of_le hil with h | h
  · obtain ⟨r1, r2, r3, r4, r5, r6, r7⟩ := round_other b.we (v.row b (i := i) (by omega) hid) rl hb h
    rw [out_u h hl]
    have e1 : uS (stW W0 e (23 - l)) e l i * 1073741824 * dF (stW W0 e (23 - l)) e l = 1073741824 * uS (stW W0 e (23 - l)) e l i * dF (stW W0 e (23 - l)) e l := by grind
    rw [e1]
    generalize 1073741824 * uS (stW W0 e (23 - l)) e l i * dF (stW W0 e (23 - l)) e l = y at *
    generalize Pn W0 e i l (23 - l) = P at *
    generalize ((23 - l : Nat) : Int) = k at *
    omega
  · subst h
    rw [uF_diag hl]
    generalize dF (stW W0 e (23 - i)) e i = y at *
    generalize Pn W0 e i i (23 - i) = P at *
    generalize ((23 - i : Nat) : Int) = k at *
    omega
theorem out_bd (b : Bg W0 e d col) {c : Nat} (hc : c < 24) : (1 ≤ stO W0 e 24 (276 + c) ∧ stO W0 e 24 (276 + c) ≤ 70368744177664) ∧ ∀ i : Nat, i < 24 → -68719476736 ≤ uF (stO W0 e 24) (i : Int) (c : Int) ∧ uF (stO W0 e 24) (i : Int) (c : Int) ≤ 68719476736 := by
  have v := Iv.all b (23 - c) (by omega)
  rw [out_d hc]
  refine ⟨?_, fun i hi => ?_⟩
  · by_cases hcd : c = d
    · subst hcd
      obtain ⟨_, o2, _⟩ := inert_own (v.dead hc) hc b.we (b.dead hc).2
      rw [o2]
      have h1 := b.we.he (24 + c) (by omega)
      have h2 := (b.dead hc).2
      omega
    · obtain ⟨_, o2, o3, _⟩ := round_own b.we (v.row b (i := c) (by omega) hcd) (v.big b (j := c) (by omega) hcd)
      omega
  · rcases Nat.lt_trichotomy i c with h | h | h
    · rw [out_u h hc]
      by_cases hcd : c = d ∨ i = d
      · have hd24 : d < 24 := by omega
        have := (v.dead hd24).u (e := e) hd24 hi hc (by omega) (by omega)
        rw [this]; omega
      · obtain ⟨_, _, r3, r4, _⟩ := round_other b.we (v.row b (i := i) (by omega) (by omega)) (v.row b (i := c) (by omega) (by omega)) (v.big b (j := c) (by omega) (by omega)) h
        omega
    · subst h; rw [uF_diag hi]; omega
    · rw [uF_below h]; omega
theorem gr_bd (b : Bg W0 e d col) {i l : Nat} (hi : i < 24) (hl : l < 24) (hid : i ≠ d) (hld : l ≠ d) : -50715927529443459102067321208832 ≤ gr W0 e i l ∧ gr W0 e i l ≤ 50715927529443459102067321208832 := by
  have v := Iv.zero b
  exact cross (v.row b (i := i) (by omega) hid) (v.row b (i := l) (by omega) hld) b.we
end
theorem sum_mid {f : Nat → Int} (hD : ∀ c, c < 24 → 1 ≤ f (276 + c) ∧ f (276 + c) ≤ 70368744177664) {i j : Int} (hi : ∀ c, c < 24 → -68719476736 ≤ uF f i ((c : Nat) : Int) ∧ uF f i ((c : Nat) : Int) ≤ 68719476736) (hj : ∀ c, c < 24 → -68719476736 ≤ uF f j ((c : Nat) : Int) ∧ uF f j ((c : Nat) : Int) ≤ 68719476736) (m : Nat) : ∀ n, m + n ≤ 24 →
    anyY f j m n = false ∧ anyP (atX f i m) (atY f j m) n = false ∧
    -(36893488147419103232 * (n : Int)) ≤ 1073741824 * sumP (atX f i m) (atY f j m) n - exS f i j m n ∧ 1073741824 * sumP (atX f i m) (atY f j m) n - exS f i j m n ≤ 36893488147419103232 * (n : Int)
  | 0, _ => by simp [anyY, anyP, sumP, exS]
  | n + 1, hn => by
    obtain ⟨i1, i2, i3, i4⟩ := sum_mid hD hi hj m n (by omega)
    have hu := hi (m + n) (by omega)
    have hw := hj (m + n) (by omega)
    have hd := hD (m + n) (by omega)
    have hp := mul_bd (a := uF f j ((m + n : Nat) : Int)) (b := f (276 + (m + n))) (A := 68719476736) (B := 70368744177664) hw (by omega)
    obtain ⟨k1, k2, k3, k4, k5⟩ := mulv_near (a := uF f j ((m + n : Nat) : Int)) (b := f (276 + (m + n))) (by omega) (by omega) (by omega)
    have s1 := satv_in (a := uF f i ((m + n : Nat) : Int)) (by omega) (by omega)
    have s2 := satv_in k4 k5
    refine ⟨by rw [anyY, i1, k1]; rfl, ?_, ?_⟩
    · rw [anyP, i2]
      show (false || sath (uF f i ((m + n : Nat) : Int)) || sath (mulv _ _)) = false
      rw [s1.2, s2.2]; rfl
    · rw [sumP, exS]
      have e1 : satv (atX f i m n) = uF f i ((m + n : Nat) : Int) := s1.1
      have e2 : satv (atY f j m n) = mulv (uF f j ((m + n : Nat) : Int)) (f (276 + (m + n))) := s2.1
      rw [e1, e2]
      generalize uF f i ((m + n : Nat) : Int) = u at *
      generalize uF f j ((m + n : Nat) : Int) = w at *
      generalize f (276 + (m + n)) = d at *
      generalize mulv w d = x at *
      have p1 := mul_bd (a := u) (b := 1073741824 * x - w * d) (A := 68719476736) (B := 536870912) hu ⟨k2, k3⟩
      have e3 : u * (1073741824 * x - w * d) = 1073741824 * (u * x) - u * w * d := by grind
      rw [e3] at p1
      generalize u * x = ux at *
      generalize u * w * d = uwd at *
      omega
theorem at_mid {f : Nat → Int} (hD : ∀ c, c < 24 → 1 ≤ f (276 + c) ∧ f (276 + c) ≤ 70368744177664) {i j : Nat} (hi : i < 24) (hj : j < 24) (hui : ∀ c, c < 24 → -68719476736 ≤ uF f (i : Int) ((c : Nat) : Int) ∧ uF f (i : Int) ((c : Nat) : Int) ≤ 68719476736) (huj : ∀ c, c < 24 → -68719476736 ≤ uF f (j : Int) ((c : Nat) : Int) ∧ uF f (j : Int) ((c : Nat) : Int) ≤ 68719476736)
    (hx : -81129638414606681695789005144064 ≤ exS f (i : Int) (j : Int) (max i j) (24 - max i j) ∧ exS f (i : Int) (j : Int) (max i j) (24 - max i j) ≤ 81129638414606681695789005144064) :
    atH f (i : Int) (j : Int) = false ∧ -1770887431076116955136 ≤ 1152921504606846976 * atV f (i : Int) (j : Int) - exS f (i : Int) (j : Int) (max i j) (24 - max i j) ∧ 1152921504606846976 * atV f (i : Int) (j : Int) - exS f (i : Int) (j : Int) (max i j) (24 - max i j) ≤ 1770887431076116955136 := by
  have hm : (max (i : Int) (j : Int)).toNat = max i j := by omega
  obtain ⟨i1, i2, i3, i4⟩ := sum_mid hD hui huj (max i j) (24 - max i j) (by omega)
  have hr := rnd_bd (atS f (i : Int) (j : Int))
  have hn : (((24 - max i j : Nat)) : Int) ≤ 24 := by omega
  have hn0 : (0 : Int) ≤ ((24 - max i j : Nat) : Int) := by omega
  have es : atS f (i : Int) (j : Int) = sumP (atX f (i : Int) (max i j)) (atY f (j : Int) (max i j)) (24 - max i j) := by unfold atS; rw [hm]
  unfold atH atV
  rw [(inN_iff (i : Int)).2 (by omega), (inN_iff (j : Int)).2 (by omega), hm, i1, i2]
  simp only [Bool.and_self, Bool.true_and, Bool.false_or, cond_true]
  rw [← es] at i3 i4
  generalize exS f (i : Int) (j : Int) (max i j) (24 - max i j) = E at *
  generalize ((24 - max i j : Nat) : Int) = n at *
  generalize atS f (i : Int) (j : Int) = S at *
  have s := satv_in (a := rnd S 30) (by omega) (by omega)
  rw [s.1, s.2]
  exact ⟨rfl, by omega, by omega⟩
theorem at_step {W0 e : Nat → Int} {d : Nat} {col : Nat → Nat} (b : Bg W0 e d col) {i l : Nat} (hi : i < 24) (hl : l < 24) (hid : i ≠ d) (hld : l ≠ d) :
    atH (stO W0 e 24) (i : Int) (l : Int) = false ∧ -(2765420173551705671962984448 : Int) ≤ 1152921504606846976 * atV (stO W0 e 24) (i : Int) (l : Int) - gr W0 e i l ∧ 1152921504606846976 * atV (stO W0 e 24) (i : Int) (l : Int) - gr W0 e i l ≤ 2765420173551705671962984448 := by
  have hn : -(2765417812368464237140377600 : Int) ≤ exS (stO W0 e 24) (i : Int) (l : Int) (max i l) (24 - max i l) - gr W0 e i l ∧ exS (stO W0 e 24) (i : Int) (l : Int) (max i l) (24 - max i l) - gr W0 e i l ≤ 2765417812368464237140377600 := by
    by_cases h : i ≤ l
    · rw [show max i l = l by omega]
      exact ex_near b h hl hid hld
    · rw [show max i l = i by omega, exS_comm, gr_comm]
      exact ex_near b (by omega) hi hld hid
  have hg := gr_bd b hi hl hid hld
  have hm := at_mid (f := stO W0 e 24) (fun c hc => (out_bd b hc).1) hi hl (fun c hc => (out_bd b hc).2 i hi) (fun c hc => (out_bd b hc).2 l hl) (by omega)
  generalize exS (stO W0 e 24) (i : Int) (l : Int) (max i l) (24 - max i l) = E at *
  exact ⟨hm.1, by omega, by omega⟩
end Go.Proofs.Ytadeadpcpgfkbaa.EA

/- ErrI -/
namespace Go.Proofs.Ytadeadpcpgfkbaa.EA
open Go.RowKit

structure Plain (f : Nat → Int) : Prop where
  u : ∀ k, k < 276 → -268435456 ≤ f k ∧ f k ≤ 268435456
  d : ∀ k, k < 24 → 17179869184 ≤ f (276 + k) ∧ f (276 + k) ≤ 8813272891391
structure Leav (g : Nat → Int) (d : Nat) : Prop where
  at_ : ∀ i t, i < 24 → t < 24 → g (24 * i + t) = if t = i ∧ i ≠ d then 1073741824 else 0
theorem Plain.uF {f : Nat → Int} (h : Plain f) {i j : Nat} (hij : i < j) (hj : j < 24) : -268435456 ≤ uF f (i : Int) (j : Int) ∧ uF f (i : Int) (j : Int) ≤ 268435456 := by
  rw [uF_num hij hj]
  have h1 := plcN_le (j + 1) (by omega)
  have h2 := plcN_next j hj
  exact h.u _ (by omega)
theorem cond_u {f : Nat → Int} (h : Plain f) {k : Nat} (hk : k < 276) : condF f k = f k := by
  unfold condF
  rw [if_pos hk]
  have := h.u k hk
  exact (satv_in (by omega) (by omega)).1
theorem cond_d {f : Nat → Int} (h : Plain f) {k : Nat} (hk : k < 24) : condF f (276 + k) = f (276 + k) := by
  unfold condF
  rw [if_neg (by omega)]
  have := h.d k hk
  unfold clampv
  rw [if_neg (by omega), if_neg (by omega), if_neg (by omega)]
theorem cond_uF {f : Nat → Int} (h : Plain f) (i j : Nat) : Go.Proofs.Ytadeadpcpgfkbaa.uF (condF f) (i : Int) (j : Int) = Go.Proofs.Ytadeadpcpgfkbaa.uF f (i : Int) (j : Int) := by
  unfold Go.Proofs.Ytadeadpcpgfkbaa.uF
  cases hc : aboveB (i : Int) (j : Int)
  · rfl
  · obtain ⟨h0, h1, h2⟩ := (aboveB_iff _ _).1 hc
    obtain ⟨_, _, k2, k3⟩ := plc_bd h0 h1 h2
    rw [cond_true, cond_true]
    exact cond_u h (by omega)
section
variable {f g q : Nat → Int} {d : Nat}
abbrev W00 (f g : Nat → Int) : Nat → Int := rowW (condF f) (sat576 g) (fun k => k + 1)
theorem w_own (h : Plain f) (hg : Leav g d) {i c : Nat} (hi : i < 24) (hc : c < 24) : W00 f g (48 * i + c) = if i = d then 0 else Go.Proofs.Ytadeadpcpgfkbaa.uF f (i : Int) (c : Int) := by
  unfold W00 rowW
  rw [show (48 * i + c) % 48 = c by omega, show (48 * i + c) / 48 = i by omega, if_pos hc]
  dsimp only
  have hgs : ∀ t, t < 24 → sat576 g (24 * i + t) = if t = i ∧ i ≠ d then 1073741824 else 0 := fun t ht => by
    unfold sat576
    rw [hg.at_ i t hi ht]
    split
    · exact (satv_in (by omega) (by omega)).1
    · exact satv_zero
  by_cases hd : i = d
  · rw [if_pos hd]
    exact dotv_none fun t ht => .inl (by rw [hgs t (by omega), if_neg (fun x => x.2 hd)])
  · rw [if_neg hd]
    by_cases hic : i ≤ c
    · have hs : sumP (fun t => sat576 g (24 * i + t)) (fun t => Go.Proofs.Ytadeadpcpgfkbaa.uF (condF f) (t : Int) (c : Int)) (c + 1) = 1073741824 * Go.Proofs.Ytadeadpcpgfkbaa.uF f (i : Int) (c : Int) := by
        rw [sumQ_one (c := i) (by omega) (fun t ht hne => .inl (by rw [hgs t (by omega), if_neg (fun x => hne x.1)]))]
        rw [hgs i hi, if_pos ⟨rfl, hd⟩, (satv_in (a := 1073741824) (by omega) (by omega)).1, cond_uF h]
        have hb : -1073741824 ≤ Go.Proofs.Ytadeadpcpgfkbaa.uF f (i : Int) (c : Int) ∧ Go.Proofs.Ytadeadpcpgfkbaa.uF f (i : Int) (c : Int) ≤ 1073741824 := by
          rcases Nat.lt_or_eq_of_le hic with h1 | h1
          · have := h.uF h1 hc; omega
          · subst h1; rw [uF_diag hi]; omega
        rw [(satv_in (a := Go.Proofs.Ytadeadpcpgfkbaa.uF f (i : Int) (c : Int)) (by omega) (by omega)).1]
      have hb : -1073741824 ≤ Go.Proofs.Ytadeadpcpgfkbaa.uF f (i : Int) (c : Int) ∧ Go.Proofs.Ytadeadpcpgfkbaa.uF f (i : Int) (c : Int) ≤ 1073741824 := by
        rcases Nat.lt_or_eq_of_le hic with h1 | h1
        · have := h.uF h1 hc; omega
        · subst h1; rw [uF_diag hi]; omega
      unfold dotv
      rw [hs, rnd_ones]
      exact (satv_in (by omega) (by omega)).1
    · rw [uF_below (by omega)]
      exact dotv_none fun t ht => .inl (by rw [hgs t (by omega), if_neg (fun x => by omega)])
theorem w_noise {i b : Nat} (hb : b < 24) : W00 f g (48 * i + (24 + b)) = if b = i then 1073741824 else 0 := by
  unfold W00 rowW
  rw [show (48 * i + (24 + b)) % 48 = 24 + b by omega, show (48 * i + (24 + b)) / 48 = i by omega, if_neg (by omega)]
  by_cases e : b = i
  · rw [if_pos e, if_pos (by omega)]
  · rw [if_neg e, if_neg (by omega)]
theorem wei_d (h : Plain f) {k : Nat} (hk : k < 24) : wei (condF f) q k = f (276 + k) := by
  unfold wei; rw [if_pos hk]; exact cond_d h hk
theorem wei_q (hq : ∀ k, k < 24 → 0 ≤ q k ∧ q k ≤ 35184372088832) {k : Nat} (hk : k < 24) : wei (condF f) q (24 + k) = q k := by
  unfold wei
  rw [if_neg (by omega), show 24 + k - 24 = k by omega]
  have := hq k hk
  unfold clampv
  rw [if_neg (by omega), if_neg (by omega), if_neg (by omega)]
theorem exS_app (f : Nat → Int) (i j : Int) (a m : Nat) : ∀ n, exS f i j a (m + n) = exS f i j a m + exS f i j (a + m) n
  | 0 => by simp [exS]
  | n + 1 => by
    rw [← Nat.add_assoc, exS, exS_app f i j a m n, exS, show a + (m + n) = a + m + n by omega]
    omega
theorem exS_skip (f : Nat → Int) (i j : Nat) {m : Nat} (hm : m = max i j) (h24 : m ≤ 24) : exS f (i : Int) (j : Int) 0 24 = exS f (i : Int) (j : Int) m (24 - m) := by
  have hz : ∀ n, n ≤ m → exS f (i : Int) (j : Int) 0 n = 0 := by
    intro n
    induction n with
    | zero => intro _; rfl
    | succ n ih =>
      intro hn
      rw [exS, ih (by omega), Nat.zero_add]
      by_cases h : n < i
      · rw [uF_below h]; simp
      · rw [uF_below (show n < j by omega)]; simp
  have := exS_app f (i : Int) (j : Int) 0 m (24 - m)
  rw [show m + (24 - m) = 24 by omega, hz m (Nat.le_refl _), Nat.zero_add] at this
  omega
theorem gr_leav (h : Plain f) (hg : Leav g d) (hq : ∀ k, k < 24 → 0 ≤ q k ∧ q k ≤ 35184372088832) {i l : Nat} (hi : i < 24) (hl : l < 24) (hid : i ≠ d) (hld : l ≠ d) :
    gr (W00 f g) (wei (condF f) q) i l = exS f (i : Int) (l : Int) 0 24 + if i = l then 1152921504606846976 * q i else 0 := by
  have h1 : ∀ n, n ≤ 24 → ws (wei (condF f) q) (rowJ (W00 f g) i) (rowJ (W00 f g) l) n = exS f (i : Int) (l : Int) 0 n := by
    intro n
    induction n with
    | zero => intro _; rfl
    | succ n ih =>
      intro hn
      rw [ws, ih (by omega), exS, Nat.zero_add, wei_d h (by omega)]
      unfold rowJ
      rw [w_own h hg hi (by omega), w_own h hg hl (by omega), if_neg hid, if_neg hld]
  have h2 : ∀ n, n ≤ 24 → ws (wei (condF f) q) (rowJ (W00 f g) i) (rowJ (W00 f g) l) (24 + n) = exS f (i : Int) (l : Int) 0 24 + if i = l ∧ i < n then 1152921504606846976 * q i else 0 := by
    intro n
    induction n with
    | zero => intro _; rw [h1 24 (Nat.le_refl _), if_neg (by omega)]; omega
    | succ n ih =>
      intro hn
      rw [show 24 + (n + 1) = (24 + n) + 1 by omega, ws, ih (by omega), wei_q hq (by omega)]
      unfold rowJ
      rw [w_noise (by omega), w_noise (by omega)]
      by_cases e : i = l
      · subst e
        by_cases e2 : n = i
        · subst e2
          rw [if_neg (by omega), if_pos rfl, if_pos (by omega)]; omega
        · rw [if_neg e2]
          by_cases e3 : i < n
          · rw [if_pos ⟨rfl, e3⟩, if_pos ⟨rfl, by omega⟩]; omega
          · rw [if_neg (by omega), if_neg (by omega)]; omega
      · rw [if_neg (show ¬ (i = l ∧ i < n) from fun x => e x.1), if_neg (show ¬ (i = l ∧ i < n + 1) from fun x => e x.1)]
        by_cases e2 : n = i
        · rw [if_neg (show ¬ n = l by omega)]; simp
        · rw [if_neg e2]; simp
  have h3 := h2 24 (Nat.le_refl _)
  unfold gr
  rw [show (48 : Nat) = 24 + 24 from rfl, h3]
  by_cases e : i = l
  · rw [if_pos e, if_pos ⟨e, hi⟩]
  · rw [if_neg e, if_neg (fun x => e x.1)]
theorem exS_plain (h : Plain f) {i : Nat} (hi : i < 24) : ∀ n, n ≤ 24 → exS f (i : Int) (i : Int) 0 n ≤ 72057594037927936 * 8813272891391 * (n : Int) + if i < n then 1152921504606846976 * 8813272891391 else 0
  | 0, _ => by simp [exS]
  | n + 1, hn => by
    have ih := exS_plain h hi n (by omega)
    have hd := h.d n (by omega)
    rw [exS, Nat.zero_add]
    have e0 : 72057594037927936 * 8813272891391 * ((n + 1 : Nat) : Int) = 72057594037927936 * 8813272891391 * (n : Int) + 72057594037927936 * 8813272891391 := by rw [Int.natCast_add]; omega
    rw [e0]
    rcases Nat.lt_trichotomy n i with h1 | h1 | h1
    · rw [uF_below h1, if_neg (by omega)]
      rw [if_neg (by omega)] at ih
      simp only [Int.zero_mul]
      omega
    · subst h1
      rw [uF_diag hi, if_pos (by omega)]
      rw [if_neg (by omega)] at ih
      omega
    · have hu := h.uF h1 (by omega)
      have hs := mul_bd hu hu
      have hs2 : Go.Proofs.Ytadeadpcpgfkbaa.uF f (i : Int) (n : Int) * Go.Proofs.Ytadeadpcpgfkbaa.uF f (i : Int) (n : Int) * f (276 + n) ≤ 72057594037927936 * 8813272891391 := Int.mul_le_mul (by omega) hd.2 (by omega) (by omega)
      rw [if_pos h1] at ih
      rw [if_pos (by omega)]
      omega
theorem tri_leav (h : Plain f) (hg : Leav g d) : Tri (W00 f g) d where
  up := fun c k hck hk hcd => by rw [w_own h hg (by omega) hk, if_neg hcd]; exact h.uF hck hk
  di := fun c hc hcd => by rw [w_own h hg hc hc, if_neg hcd]; exact uF_diag hc
  lo := fun c k hkc hc hcd => by rw [w_own h hg hc (by omega), if_neg hcd]; exact uF_below hkc
  no := fun c b _ hb _ => w_noise hb
theorem bg_leav (h : Plain f) (hg : Leav g d) (hq : ∀ k, k < 24 → 0 ≤ q k ∧ q k ≤ 35184372088832) (hq2 : ∀ k, k < 24 → k ≠ d → q k ≤ 17592186044416) (hd : d < 24 → 1 ≤ q d) : Bg (W00 f g) (wei (condF f) q) d (fun j => j) := by
  have hwe : We (wei (condF f) q) := ⟨fun k hk => by
    by_cases h24 : k < 24
    · rw [wei_d h h24]; have := h.d k h24; omega
    · have := wei_q (f := f) hq (k := k - 24) (by omega)
      rw [show 24 + (k - 24) = k by omega] at this
      rw [this]
      have := hq (k - 24) (by omega)
      omega⟩
  refine ⟨hwe, fun hd24 => ⟨Inert.rows hd24 (fun t ht => by unfold sat576; rw [hg.at_ d t hd24 ht, if_neg (fun x => x.2 rfl), satv_zero]) _ (fun c hc => by omega), by rw [wei_q hq hd24]; exact hd hd24⟩, fun i hi hid => ?_, fun j hj hjd => ⟨by omega, by rw [wei_d h hj]; exact (h.d j hj).1, (tri_leav h hg).di j hj hjd, fun i hji hi hid => (tri_leav h hg).lo i j hji hi hid⟩, fun p D m x hp hD hm hr hB => rep_tri (tri_leav h hg) hwe (fun k hk => by rw [wei_d h hk]; exact (h.d k hk).1) hp hD hm hr hB⟩
  rw [gr_leav h hg hq hi hi hid hid, if_pos rfl]
  have h1 := exS_plain h hi 24 (Nat.le_refl _)
  rw [if_pos hi] at h1
  have h2 := hq2 i hi hid
  omega
theorem small_plain (h : Plain f) : Small f := ⟨fun k hk => by have := h.u k hk; omega, fun k hk => by have := h.d k hk; omega⟩
theorem rowsH_is {p g : Nat → Int} {n : Nat → Nat} {i k : Nat} (hk : k < 24) : rowsH p g n (48 * i + k) = doth (fun t => g (24 * i + t)) (fun t => Go.Proofs.Ytadeadpcpgfkbaa.uF p (t : Int) (k : Int)) (n k) := by
  unfold rowsH
  rw [show (48 * i + k) % 48 = k by omega, show (48 * i + k) / 48 = i by omega]
theorem hit_leav (h : Plain f) (hg : Leav g d) (hq : ∀ k, k < 24 → 0 ≤ q k ∧ q k ≤ 35184372088832) (hq2 : ∀ k, k < 24 → k ≠ d → q k ≤ 17592186044416) (hd : d < 24 → 1 ≤ q d) : stepH f g q = false := by
  have hgk : ∀ k, k < 576 → g k = 0 ∨ g k = 1073741824 := fun k hk => by
    have := hg.at_ (k / 24) (k % 24) (by omega) (by omega)
    rw [show 24 * (k / 24) + k % 24 = k by omega] at this
    rw [this]; split
    · exact .inr rfl
    · exact .inl rfl
  have c1 : condH f = false := by
    unfold condH
    have hD : ∀ n, n ≤ 24 → hitD f n = false := by
      intro n
      induction n with
      | zero => intro _; rfl
      | succ n ih =>
        intro hn
        have := h.d n (by omega)
        rw [hitD, ih (by omega)]
        unfold clamph
        rw [decide_eq_false (by omega), decide_eq_false (by omega), decide_eq_false (by omega)]; rfl
    have hU : ∀ n, n ≤ 276 → hitU f n = false := by
      intro n
      induction n with
      | zero => intro _; rfl
      | succ n ih =>
        intro hn
        have := h.u n (by omega)
        rw [hitU, ih (by omega), sath_in (by omega) (by omega)]; rfl
    rw [hD 24 (Nat.le_refl _), hU 276 (Nat.le_refl _)]; rfl
  have c2 : anyN (fun k => sath (g k)) 576 = false := by
    cases hc : anyN (fun k => sath (g k)) 576
    · rfl
    · obtain ⟨k, hk, hx⟩ := anyN_iff.1 hc
      rcases hgk k hk with e | e <;> (rw [e] at hx; exact absurd hx (by decide))
  have c4 : anyN (fun k => clamph (q k) 0 72057594037927936) 24 = false := by
    cases hc : anyN (fun k => clamph (q k) 0 72057594037927936) 24
    · rfl
    · obtain ⟨k, hk, hx⟩ := anyN_iff.1 hc
      have := hq k hk
      unfold clamph at hx
      rw [decide_eq_false (by omega), decide_eq_false (by omega), decide_eq_false (by omega)] at hx
      cases hx
  have c3 : anyN (fun k => anyN (fun i => rowsH (condF f) (sat576 g) (fun k => k + 1) (48 * i + k)) 24) 24 = false := by
    cases hc : anyN (fun k => anyN (fun i => rowsH (condF f) (sat576 g) (fun k => k + 1) (48 * i + k)) 24) 24
    · rfl
    · obtain ⟨k, hk, hx⟩ := anyN_iff.1 hc
      obtain ⟨i, hi, hx⟩ := anyN_iff.1 hx
      exfalso
      rw [rowsH_is hk] at hx
      have hgs : ∀ t, t < 24 → sat576 g (24 * i + t) = if t = i ∧ i ≠ d then 1073741824 else 0 := fun t ht => by
        unfold sat576
        rw [hg.at_ i t hi ht]
        split
        · exact (satv_in (by omega) (by omega)).1
        · exact satv_zero
      have hub : ∀ t : Nat, t < 24 → -1073741824 ≤ Go.Proofs.Ytadeadpcpgfkbaa.uF (condF f) (t : Int) (k : Int) ∧ Go.Proofs.Ytadeadpcpgfkbaa.uF (condF f) (t : Int) (k : Int) ≤ 1073741824 := fun t ht => by
        rw [cond_uF h]
        rcases Nat.lt_trichotomy t k with h1 | h1 | h1
        · have := h.uF h1 hk; omega
        · subst h1; rw [uF_diag hk]; omega
        · rw [uF_below h1]; omega
      unfold doth at hx
      rw [Bool.or_eq_true] at hx
      rcases hx with hx | hx
      · obtain ⟨t, ht, hx⟩ := anyP_iff.1 hx
        have b := hub t (by omega)
        rw [hgs t (by omega), sath_in (a := Go.Proofs.Ytadeadpcpgfkbaa.uF (condF f) (t : Int) (k : Int)) (by omega) (by omega), Bool.or_false] at hx
        split at hx <;> exact absurd hx (by decide)
      · by_cases hio : i ≤ k ∧ i ≠ d
        · rw [sumQ_one (c := i) (by omega) (fun t ht hne => .inl (by rw [hgs t (by omega), if_neg (fun x => hne x.1)])), hgs i hi, if_pos ⟨rfl, hio.2⟩, (satv_in (a := 1073741824) (by omega) (by omega)).1] at hx
          have b := hub i hi
          rw [(satv_in (a := Go.Proofs.Ytadeadpcpgfkbaa.uF (condF f) (i : Int) (k : Int)) (by omega) (by omega)).1, rnd_ones, sath_in (by omega) (by omega)] at hx
          cases hx
        · rw [sumQ_none (fun t ht => .inl (by rw [hgs t (by omega), if_neg (fun x => hio ⟨by omega, x.2⟩)])), rnd_zero, sath_zero] at hx
          cases hx
  have c5 := (Iv.all (bg_leav h hg hq hq2 hd) 24 (Nat.le_refl _)).hit
  unfold stepH
  rw [c1, c2, c3, c4]
  exact c5
theorem near_leav (h : Plain f) (hg : Leav g d) (hq : ∀ k, k < 24 → 0 ≤ q k ∧ q k ≤ 35184372088832) (hq2 : ∀ k, k < 24 → k ≠ d → q k ≤ 17592186044416) (hd : d < 24 → 1 ≤ q d) {i l : Nat} (hi : i < 24) (hl : l < 24) (hid : i ≠ d) (hld : l ≠ d) :
    atH f (i : Int) (l : Int) = false ∧ atH (stepF f g q) (i : Int) (l : Int) = false ∧ -36028797018963968 ≤ atV f (i : Int) (l : Int) ∧ atV f (i : Int) (l : Int) ≤ 36028797018963968 ∧
    -4294967296 ≤ atV (stepF f g q) (i : Int) (l : Int) - atV f (i : Int) (l : Int) - (if i = l then q i else 0) ∧ atV (stepF f g q) (i : Int) (l : Int) - atV f (i : Int) (l : Int) - (if i = l then q i else 0) ≤ 4294967296 := by
  obtain ⟨a1, a2, a3, a4, a5⟩ := at_small (small_plain h) (i := (i : Int)) (j := (l : Int)) (by omega) (by omega)
  obtain ⟨b1, b2, b3⟩ := at_step (bg_leav h hg hq hq2 hd) hi hl hid hld
  have hS : stO (W00 f g) (wei (condF f) q) 24 = stepF f g q := rfl
  rw [hS] at b1 b2 b3
  rw [gr_leav h hg hq hi hl hid hld, exS_skip f i l (m := max i l) rfl (by omega)] at b2 b3
  rw [show (max (i : Int) (l : Int)).toNat = max i l by omega] at a2 a3
  refine ⟨a1, b1, a4, a5, ?_⟩
  by_cases e : i = l
  · rw [if_pos e] at b2 b3 ⊢
    omega
  · rw [if_neg e] at b2 b3 ⊢
    omega
end
end Go.Proofs.Ytadeadpcpgfkbaa.EA
