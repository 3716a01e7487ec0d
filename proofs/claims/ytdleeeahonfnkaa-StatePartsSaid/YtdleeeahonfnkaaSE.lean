/- The runner: known calls of fx and wide; laws over symbols. -/
import Derived.Test.YtdleeeahonfnkaaNorm
import Derived.Test.YtdleeeahonfnkaaPC
import Derived.Test.YtdleeeahonfnkaaPD
import Derived.Test.YtdleeeahonfnkaaQP
import Derived.Test.YtdleeeahonfnkaaRN
import Derived.Test.YtdleeeahonfnkaaSD
import Derived.Test.YtdleeeahonfnkaaUnit

/- SxU -/
namespace Go.Proofs.Ytdleeeahonfnkaa.SX
open Go Go.RowKit

def sumL : List Int → Int
  | [] => 0
  | a :: l => sumL l + satv a
def anyL : List Int → Bool
  | [] => false
  | a :: l => anyL l || sath a
def dotL : List Int → Int
  | a :: b :: l => dotL l + satv a * satv b
  | _ => 0
def dotH : List Int → Bool
  | a :: b :: l => dotH l || sath a || sath b
  | _ => false
/-! ### The root, bit by bit: quick to reckon -/
noncomputable def rootB (n : Nat) : Nat → Nat → Nat :=
  Nat.rec (motive := fun _ => Nat → Nat) (fun r => r) (fun k st r => Bool.rec (motive := fun _ => Nat) (st r) (st (Nat.add r (Nat.pow 2 k))) (Nat.ble (Nat.mul (Nat.add r (Nat.pow 2 k)) (Nat.add r (Nat.pow 2 k))) n))
theorem rootB_s (n k r : Nat) : rootB n (k + 1) r = bif Nat.ble ((r + 2 ^ k) * (r + 2 ^ k)) n then rootB n k (r + 2 ^ k) else rootB n k r := by
  show Bool.rec (motive := fun _ => Nat) (rootB n k r) (rootB n k (r + 2 ^ k)) (Nat.ble ((r + 2 ^ k) * (r + 2 ^ k)) n) = _
  cases Nat.ble ((r + 2 ^ k) * (r + 2 ^ k)) n <;> rfl
theorem rootB_ok (n : Nat) : ∀ k r, r * r ≤ n → n < (r + 2 ^ k) * (r + 2 ^ k) → rootB n k r * rootB n k r ≤ n ∧ n < (rootB n k r + 1) * (rootB n k r + 1)
  | 0, r, h1, h2 => ⟨h1, h2⟩
  | k + 1, r, h1, h2 => by
    rw [rootB_s, nble, Bool.cond_decide]
    split
    · rename_i h
      refine rootB_ok n k _ h ?_
      rw [show r + 2 ^ k + 2 ^ k = r + 2 ^ (k + 1) by rw [Nat.pow_succ]; omega]
      exact h2
    · rename_i h
      exact rootB_ok n k _ h1 (by omega)
noncomputable def isqF (n : Nat) : Nat := bif Nat.blt n 1461501637330902918203684832716283019655932542976 then rootB n 80 0 else isq n
theorem isqF_eq (n : Nat) : isqF n = isq n := by
  unfold isqF
  rw [nblt, Bool.cond_decide]
  split
  · rename_i h
    obtain ⟨h1, h2⟩ := rootB_ok n 80 0 (Nat.zero_le _) (by show n < (0 + 2 ^ 80) * (0 + 2 ^ 80); omega)
    obtain ⟨h3, h4⟩ := isq_spec n
    have k1 : isq n ≤ rootB n 80 0 := isq_le h2
    rcases Nat.lt_or_ge (isq n) (rootB n 80 0) with h5 | h5
    · have := Nat.mul_le_mul (show isq n + 1 ≤ rootB n 80 0 from h5) (show isq n + 1 ≤ rootB n 80 0 from h5)
      omega
    · omega
  · rfl
noncomputable def rootF (n : Nat) : Nat := Nat.add (isqF n) (bif Nat.blt (isqF n) (n - isqF n * isqF n) then 1 else 0)
theorem rootF_eq (n : Nat) : rootF n = rootN n := by
  show isqF n + _ = _
  unfold rootN
  rw [isqF_eq, nblt, Bool.cond_decide]
noncomputable def sqwF (a : Int) : Int := bif ile 0 (satv a) then (rootF ((satv a).natAbs * 1073741824) : Nat) else 0
theorem sqwF_eq (a : Int) : sqwF a = sqw a := by
  unfold sqwF sqw
  rw [ile_iff, Bool.cond_decide, rootF_eq]
  by_cases h : satv a < 0
  · rw [if_neg (by omega), if_pos h]
  · rw [if_pos (by omega), if_neg h]
/-- A sum of squares; a sum of sizes. -/
def sqL : List Int → Int
  | [] => 0
  | a :: l => sqL l + satv a * satv a
def absL : List Int → Int
  | [] => 0
  | a :: l => absL l + ((satv a).natAbs : Nat)
def inWB (z : Int) : Bool := ile (-170141183460469231731687303715884105728) z && !ile 170141183460469231731687303715884105728 z
/-- The sum of all, if each sum on the way (from acc on) is in bounds. -/
def wsum : Int → List Int → Option Int
  | acc, [] => some acc
  | acc, z :: l => bif inWB (acc + z) then wsum (acc + z) l else none
def rootOk (z : Int) : Bool := ile 0 z && ile z 85070591730234615856620279821087277056
/-! ### Sines, cosines, angles: the document's series, by this program's arithmetic -/
/-- A product of numbers in the format Q, rounded. -/
def mq (a b : Int) : Int := satv (rnd (satv a * satv b) 30)
def sinP (w : Int) : Int := mq w (1073741824 + mq (mq w w) (-178956971 + mq (mq w w) (8947849 + mq (mq w w) (-213044 + mq (mq w w) (2959 - mq (mq w w) 27)))))
def cosP (x : Int) : Int := 1073741824 + mq (mq x x) (-536870912 + mq (mq x x) (44739243 + mq (mq x x) (-1491308 + mq (mq x x) (26631 + mq (mq x x) (-296 + mq (mq x x) 2)))))
def sineF (w : Int) : Int := if w < 0 then (if 843314857 < -w then -cosP (1686629713 + w) else sinP w) else if 843314857 < w then cosP (1686629713 - w) else sinP w
def wrapT (a : Int) : Int := if 3373259426 < a.tmod 6746518852 then a.tmod 6746518852 - 6746518852 else if -3373259426 < a.tmod 6746518852 then a.tmod 6746518852 else a.tmod 6746518852 + 6746518852
def foldT (w : Int) : Int := if 1686629713 < w then 3373259426 - w else if w < -1686629713 then -3373259426 - w else w
def sinF (a : Int) : Int := clampv (sineF (foldT (wrapT (satv a)))) (-1073741824) 1073741824
def atanS (z : Int) : Int := 1073741824 + mq z (-357913941 + mq z (214748365 + mq z (-153391689 + mq z (119304647 + mq z (-97612893 + mq z (82595525 + mq z (-71582788 + mq z (63161284 + mq z (-56512728 + mq z (51130563 - mq z 46684427))))))))))
/-- The angle of the tangent t. -/
def slopeF (t : Int) : Int := if 444758426 < t then 843314857 + mq (divv (satv (t - 1073741824) * 2 ^ 30) (satv (t + 1073741824))) (atanS (mq (divv (satv (t - 1073741824) * 2 ^ 30) (satv (t + 1073741824))) (divv (satv (t - 1073741824) * 2 ^ 30) (satv (t + 1073741824))))) else mq t (atanS (mq t t))
def atanF (y x : Int) : Int :=
  if satv y = 0 ∧ satv x = 0 then 0 else
  let r := if absv (satv x) < absv (satv y) then 1686629713 - slopeF (divv (absv (satv x) * 2 ^ 30) (absv (satv y))) else slopeF (divv (absv (satv y) * 2 ^ 30) (absv (satv x)))
  let s := if satv x < 0 then 3373259426 - r else r
  if satv y < 0 then -s else s
theorem mq_bd (a b : Int) : -1152921504606846976 ≤ mq a b ∧ mq a b ≤ 1152921504606846976 := ⟨satv_lo _, satv_hi _⟩
theorem cosP_bd (x : Int) : -1152921504606846976 ≤ cosP x - 1073741824 ∧ cosP x - 1073741824 ≤ 1152921504606846976 := by
  unfold cosP
  have := mq_bd (mq x x) (-536870912 + mq (mq x x) (44739243 + mq (mq x x) (-1491308 + mq (mq x x) (26631 + mq (mq x x) (-296 + mq (mq x x) 2)))))
  omega
theorem sineF_bd (w : Int) : -1152921505680588800 ≤ sineF w ∧ sineF w ≤ 1152921505680588800 := by
  have h1 := cosP_bd (1686629713 + w)
  have h2 := cosP_bd (1686629713 - w)
  have h3 : -1152921504606846976 ≤ sinP w ∧ sinP w ≤ 1152921504606846976 := mq_bd _ _
  unfold sineF
  (repeat' split) <;> omega
theorem sinF_bd (a : Int) : -1073741824 ≤ sinF a ∧ sinF a ≤ 1073741824 := by
  unfold sinF clampv; (repeat' split) <;> omega
theorem slopeF_bd (t : Int) : -1152921505450161833 ≤ slopeF t ∧ slopeF t ≤ 1152921505450161833 := by
  unfold slopeF
  split
  · have := mq_bd (divv (satv (t - 1073741824) * 2 ^ 30) (satv (t + 1073741824))) (atanS (mq (divv (satv (t - 1073741824) * 2 ^ 30) (satv (t + 1073741824))) (divv (satv (t - 1073741824) * 2 ^ 30) (satv (t + 1073741824)))))
    omega
  · have := mq_bd t (atanS (mq t t))
    omega
theorem atanF_bd (y x : Int) : -8070450532247928832 ≤ atanF y x ∧ atanF y x ≤ 8070450532247928832 := by
  have h1 := slopeF_bd (divv (absv (satv x) * 2 ^ 30) (absv (satv y)))
  have h2 := slopeF_bd (divv (absv (satv y) * 2 ^ 30) (absv (satv x)))
  unfold atanF
  simp only
  (repeat' split) <;> omega
/-- A list's numbers by their places; what Set leaves at a place. -/
def cellF (l : List Int) : Nat → Int := fun k => l.getD k 0
def setC (i j v k a : Int) : Int := if aboveB i j = true ∧ plc i j = k then v else a
/-- Do the squares of four numbers sum to One times One, within 2^32? -/
def sqS (f : Nat → Int) : Nat → Int
  | 0 => 0
  | k + 1 => sqS f k + f k * f k
def smallB (x : Int) : Bool := ile (-1073741840) x && ile x 1073741840
def nearQ (f : Nat → Int) : Bool := smallB (f 0) && (smallB (f 1) && (smallB (f 2) && (smallB (f 3) && (ile 1152921500311879680 (sqS f 4) && ile (sqS f 4) 1152921508901814272))))
/-- Divided by their length; what clamps; twice, after all have been clamped. -/
noncomputable def lenL (l : List Int) : Int := satv (rootF (sqL l).toNat : Nat)
noncomputable def byL (l : List Int) : List Int := l.map fun a => divv (satv a * 1073741824) (satv (lenL l))
noncomputable def byH (l : List Int) : Bool := (anyL l || sath (rootF (sqL l).toNat : Nat)) || l.any fun a => sath a || sath (lenL l) || divh (satv a * 1073741824) (satv (lenL l))
def noneL (l : List Int) : Bool := l.all fun a => ieq a 0
noncomputable def unitNs (l : List Int) : List Int := bif noneL (l.map satv) then [1073741824, 0, 0, 0] else byL (byL (l.map satv))
noncomputable def unitNH (l : List Int) : Bool := anyL l || (bif noneL (l.map satv) then false else byH (l.map satv) || byH (byL (l.map satv)))
/-- Is an estimate within its box? -/
def boxF (i : Nat) : Int := bif Nat.blt i 4 then 1073741840 else bif Nat.blt i 7 then 549755813888 else bif Nat.blt i 10 then 9007199254740992 else bif Nat.blt i 13 then 134217728 else bif Nat.blt i 16 then 1073741824 else bif Nat.blt i 22 then 2147483648 else 137438953472
def inBox (f : Nat → Int) : Nat → Bool
  | 0 => true
  | k + 1 => inBox f k && (ile (-boxF k) (f k) && ile (f k) (boxF k))
def goodQ (f : Nat → Int) : Bool := inBox f 24 && nearQ f
/-- What the marks stand for. -/
noncomputable def U (n : Nat) (l : List Int) : Int := match n with
  | 0 => (match l with | [a] => satv a | _ => 0)
  | 1 => (match l with | [a] => b2i (sath a) | _ => 0)
  | 2 => (match l with | [a, b, s] => satv (rnd (satv a * satv b) s.toNat) | _ => 0)
  | 3 => (match l with | [a, b, s] => b2i (sath a || sath b || sath (rnd (satv a * satv b) s.toNat)) | _ => 0)
  | 4 => (match l with | [a, b, s] => divv (satv a * 2 ^ s.toNat) (satv b) | _ => 0)
  | 5 => (match l with | [a, b, s] => b2i (sath a || sath b || divh (satv a * 2 ^ s.toNat) (satv b)) | _ => 0)
  | 6 => (match l with | [a, b, d] => divv (satv a * satv b) (satv d) | _ => 0)
  | 7 => (match l with | [a, b, d] => b2i (sath a || sath b || sath d || divh (satv a * satv b) (satv d)) | _ => 0)
  | 8 => (match l with | [a, b] => satv (satv a - satv b) | _ => 0)
  | 9 => (match l with | [a, b] => b2i (sath a || sath b || sath (satv a - satv b)) | _ => 0)
  | 10 => (match l with | [a, lo, hi] => clampv a lo hi | _ => 0)
  | 11 => (match l with | [a, lo, hi] => b2i (clamph a lo hi) | _ => 0)
  | 12 => (match l with | [a] => absv a | _ => 0)
  | 14 => satv (sumL l)
  | 15 => b2i (anyL l || sath (sumL l))
  | 16 => (match l with | s :: r => satv (rnd (dotL r) s.toNat) | _ => 0)
  | 17 => (match l with | s :: r => b2i (dotH r || sath (rnd (dotL r) s.toNat)) | _ => 0)
  | 18 => (match l with | s :: n :: r => satv (rnd (dotL (r.take (2 * n.toNat)) - dotL (r.drop (2 * n.toNat))) s.toNat) | _ => 0)
  | 20 => (match l with | [a, b] => a * b | _ => 0)
  | 21 => (match l with | [z] => wh z | _ => 0)
  | 22 => (match l with | [z] => wl z | _ => 0)
  | 23 => (match l with | [h, x] => h * 18446744073709551616 + x | _ => 0)
  | 24 => (match wsum 0 l with | some z => z | none => 0)
  | 25 => b2i (wsum 0 l).isSome
  | 26 => (match l with | [z] => (bif rootOk z then (rootF z.toNat : Nat) else 0) | _ => 0)
  | 27 => (match l with | [z] => b2i (rootOk z) | _ => 0)
  | 28 => (match l with | [x, y] => cmpI x y | _ => 0)
  | 30 => (match l with | [a] => sqwF a | _ => 0)
  | 31 => (match l with | [a] => b2i (sath a || decide (satv a < 0)) | _ => 0)
  | 32 => satv (rootF (sqL l).toNat : Nat)
  | 33 => b2i (anyL l || sath (rootF (sqL l).toNat : Nat))
  | 34 => (match l with | [w] => sineF w | _ => 0)
  | 36 => (match l with | [a] => sinF a | _ => 0)
  | 38 => (match l with | [y, x] => atanF y x | _ => 0)
  | 39 => (match l with | [y, x] => b2i (sath y || sath x) | _ => 0)
  | 40 => (match l with | [t] => slopeF t | _ => 0)
  | 50 => (match l with | i :: j :: r => atV (cellF r) i j | _ => 0)
  | 51 => (match l with | i :: j :: r => b2i (atH (cellF r) i j) | _ => 0)
  | 52 => (match l with | i :: j :: r => uF (cellF r) i j | _ => 0)
  | 53 => b2i (condH (cellF l))
  | 54 => b2i (goodB (cellF l))
  | 55 => mostF (cellF l) 23
  | 56 => (match l with | [i, j, v, k, a] => setC i j v k a | _ => 0)
  | 57 => b2i (diagH (cellF l) 24)
  | 58 => b2i (newH (cellF l) l.length 24)
  | 60 => ((encN (stepZ l).1 : Nat) : Int)
  | 61 => (match l with | [k, R] => decK k.toNat R | _ => 0)
  | 62 => b2i (stepZ l).2
  | 63 => (match l with | [z] => z | _ => 0)
  | 70 => b2i (nearQ (cellF l))
  | 71 => b2i (goodQ (cellF l))
  | 72 => (match l with | k :: r => clampv ((unitNs r).getD k.toNat 0) (-1073741840) 1073741840 | _ => 0)
  | 73 => b2i (unitNH l)
  | 74 => (match l with | k :: r => clampv ((bif nearQ (cellF r) then r else unitNs r).getD k.toNat 0) (-1073741840) 1073741840 | _ => 0)
  | 75 => b2i (bif nearQ (cellF l) then false else unitNH l)
  | 41 => (match l with | s :: n :: r => b2i (sath (rnd (dotL (r.take (2 * n.toNat)) - dotL (r.drop (2 * n.toNat))) s.toNat)) | _ => 0)
  | _ => 0


theorem satR_ok {r : Rg} {z : Int} (h : within r z) : within (satR r) (satv z) := by
  unfold satR
  split
  · rename_i a b
    have e := h a b rfl
    rw [clampI_eq, clampI_eq]
    unfold mx satv
    refine within_some ?_ ?_
    · repeat' split
      all_goals omega
    · repeat' split
      all_goals omega
  · exact within_some (satv_lo z) (satv_hi z)
theorem sat_mx (z : Int) : within (some (-mx, mx)) (satv z) := within_some (satv_lo z) (satv_hi z)
theorem rnd_nr (v : Int) (s : Nat) : -((2 ^ s : Nat) : Int) ≤ 2 * (((2 ^ s : Nat) : Int) * rnd v s - v) ∧ 2 * (((2 ^ s : Nat) : Int) * rnd v s - v) ≤ ((2 ^ s : Nat) : Int) := by
  have hp : 0 < 2 ^ s := Nat.pow_pos (by omega)
  have h1 : 2 * (2 ^ s * rq v.natAbs s) ≤ 2 * v.natAbs + 2 ^ s ∧ 2 * v.natAbs ≤ 2 * (2 ^ s * rq v.natAbs s) + 2 ^ s := by
    unfold rq
    have h2 := Nat.div_add_mod (v.natAbs + halfOf s) (2 ^ s)
    have h3 := Nat.mod_lt (v.natAbs + halfOf s) hp
    have h4 : 2 * halfOf s = 2 ^ s ∨ (s = 0 ∧ halfOf s = 0) := by
      unfold halfOf
      split
      · rename_i h; exact .inr ⟨h, rfl⟩
      · left; rw [← Nat.pow_succ']; congr 1; omega
    rcases h4 with h4 | ⟨rfl, h4⟩
    · generalize halfOf s = hh at *
      generalize (v.natAbs + hh) / 2 ^ s = q at *
      generalize (v.natAbs + hh) % 2 ^ s = m at *
      generalize 2 ^ s * q = pq at *
      omega
    · rw [h4] at *
      simp at *
  have e : (((2 ^ s : Nat) : Int) * ((rq v.natAbs s : Nat) : Int)) = ((2 ^ s * rq v.natAbs s : Nat) : Int) := by simp
  by_cases hv : v < 0
  · have er : rnd v s = -((rq v.natAbs s : Nat) : Int) := by unfold rnd withSign; rw [decide_eq_true hv]; rfl
    rw [er, Int.mul_neg, e]
    clear e er
    generalize 2 ^ s * rq v.natAbs s = pq at *
    generalize 2 ^ s = P at *
    omega
  · have er : rnd v s = ((rq v.natAbs s : Nat) : Int) := by unfold rnd withSign; rw [decide_eq_false hv]; rfl
    rw [er, e]
    clear e er
    generalize 2 ^ s * rq v.natAbs s = pq at *
    generalize 2 ^ s = P at *
    omega
theorem rnd_fdiv {lo v hi : Int} (s : Nat) (h1 : lo ≤ v) (h2 : v ≤ hi) : lo.fdiv ((2 ^ s : Nat) : Int) ≤ rnd v s ∧ rnd v s ≤ hi.fdiv ((2 ^ s : Nat) : Int) + 1 := by
  have hp : (0 : Int) < ((2 ^ s : Nat) : Int) := by have : 0 < 2 ^ s := Nat.pow_pos (by omega); omega
  have hr := rnd_nr v s
  generalize ((2 ^ s : Nat) : Int) = p at *
  rw [Int.fdiv_eq_ediv_of_nonneg _ (by omega), Int.fdiv_eq_ediv_of_nonneg _ (by omega)]
  generalize rnd v s = q at *
  have e1 : lo / p < q + 1 := by
    rw [Int.ediv_lt_iff_lt_mul hp, Int.add_mul, Int.mul_comm q p]
    generalize p * q = pq at *
    omega
  have e2 : q - 1 ≤ hi / p := by
    rw [Int.le_ediv_iff_mul_le hp, Int.sub_mul, Int.mul_comm q p]
    generalize p * q = pq at *
    omega
  omega
theorem rnd_nought (s : Nat) : rnd 0 s = 0 := by unfold rnd withSign; simp [rq_zero]
theorem rndI_eq (s : Nat) (v : Int) : rndI s v = rnd v s := by
  have hh : hlf s = halfOf s := by unfold hlf halfOf; rw [nbeq, Bool.cond_decide]; rfl
  unfold rnd withSign rq
  cases v with
  | ofNat n =>
    have : ¬ (Int.ofNat n < 0) := by simp
    simp only [rndI, hh, decide_eq_false this]
    rfl
  | negSucc n =>
    have : Int.negSucc n < 0 := Int.negSucc_lt_zero n
    simp only [rndI, hh, decide_eq_true this, if_true]
    rfl
theorem rndI_mono {u v : Int} (s : Nat) (h : u ≤ v) : rndI s u ≤ rndI s v := by
  have hq : ∀ {m n : Nat}, m ≤ n → rq m s ≤ rq n s := fun h => by unfold rq; exact Nat.div_le_div_right (by omega)
  rw [rndI_eq, rndI_eq]
  unfold rnd withSign
  by_cases hu : u < 0
  · by_cases hv : v < 0
    · have := hq (show v.natAbs ≤ u.natAbs by omega)
      simp [hu, hv]; omega
    · simp [hu, hv] <;> omega
  · have hv : ¬ v < 0 := by omega
    have := hq (show u.natAbs ≤ v.natAbs by omega)
    simp [hu, hv]; omega
theorem rndI_in {lo v hi : Int} (s : Nat) (h1 : lo ≤ v) (h2 : v ≤ hi) : rndI s lo ≤ rnd v s ∧ rnd v s ≤ rndI s hi := by
  rw [← rndI_eq]
  exact ⟨rndI_mono s h1, rndI_mono s h2⟩
theorem prodR_ok {s : Nat} {r q : Rg} {x y : Int} (h1 : within r x) (h2 : within q y) : within (prodR s r q) (rnd (x * y) s) := by
  unfold prodR
  split
  · rename_i a b c d
    have e1 := h1 a b rfl
    have e2 := h2 c d rfl
    have k := mul_ok4 e1.1 e1.2 e2.1 e2.2
    have := rndI_in s k.1 k.2
    exact within_some this.1 this.2
  · exact within_none _
theorem sqrR_ok {s : Nat} {r : Rg} {x : Int} (h : within r x) : within (sqrR s r) (rnd (x * x) s) := by
  unfold sqrR
  split
  · rename_i a b
    have e := h a b rfl
    have k1 : x * x ≤ imax (a * a) (b * b) := by
      rw [imax_eq]
      rcases Int.le_total 0 x with h0 | h0
      · have : x * x ≤ b * b := Int.mul_le_mul e.2 e.2 h0 (by omega)
        split <;> omega
      · have : x * x ≤ a * a := by
          have := Int.mul_le_mul (show -x ≤ -a by omega) (show -x ≤ -a by omega) (by omega) (by omega)
          rwa [Int.neg_mul_neg, Int.neg_mul_neg] at this
        split <;> omega
    have k2 : (bif ile 0 a then a * a else bif ile b 0 then b * b else 0) ≤ x * x := by
      rw [ile_iff, ile_iff, Bool.cond_decide, Bool.cond_decide]
      split
      · exact Int.mul_le_mul e.1 e.1 (by omega) (by omega)
      · split
        · have := Int.mul_le_mul (show -b ≤ -x by omega) (show -b ≤ -x by omega) (by omega) (by omega)
          rwa [Int.neg_mul_neg, Int.neg_mul_neg] at this
        · exact Nm.sqnn x
    have := rndI_in s k2 k1
    exact within_some this.1 this.2
  · exact within_none _
theorem divZ_pos {v d : Int} (hd : 1 ≤ d) : (0 ≤ v → 0 ≤ divZ v d ∧ divZ v d ≤ v / d + 1) ∧ (v ≤ 0 → -((-v) / d + 1) ≤ divZ v d ∧ divZ v d ≤ 0) := by
  have hw : (wh v < 0) ↔ v < 0 := by unfold wh; omega
  have dqb : ∀ n m : Nat, (dq n m : Nat) ≤ n / m + 1 := fun n m => by unfold dq; split <;> omega
  have hdn : decide (d < 0) = false := decide_eq_false (by omega)
  have cast : ∀ {x : Int}, 0 ≤ x → (((x.natAbs / d.natAbs : Nat)) : Int) = x / d := fun hx => by
    rw [Int.natCast_ediv, Int.natAbs_of_nonneg hx, Int.natAbs_of_nonneg (by omega)]
  constructor
  · intro h
    have := dqb v.natAbs d.natAbs
    have hc := cast h
    unfold divZ withSign
    rw [hdn, decide_eq_false (by rw [hw]; omega : ¬ wh v < 0)]
    simp only [bne_self_eq_false, Bool.false_eq_true, if_false]
    omega
  · intro h
    by_cases h0 : v = 0
    · subst h0
      have e : dq 0 d.natAbs = 0 := by
        unfold dq
        simp
        omega
      have hz : divZ 0 d = 0 := by
        unfold divZ withSign
        rw [show (0 : Int).natAbs = 0 from rfl, e]
        split <;> rfl
      rw [hz]; simp
    · have := dqb v.natAbs d.natAbs
      have hc := cast (x := -v) (by omega)
      rw [Int.natAbs_neg] at hc
      unfold divZ withSign
      rw [hdn, decide_eq_true (by rw [hw]; omega : wh v < 0)]
      simp only [Bool.true_bne, Bool.not_false, if_true]
      omega
theorem ratioR_ok {s : Nat} {r q : Rg} {x y : Int} (h1 : within r x) (h2 : within q y) : ∀ lo hi, ratioR s r q = some (lo, hi) → 1 ≤ y ∧ lo ≤ divZ (x * ((2 ^ s : Nat) : Int)) y ∧ divZ (x * ((2 ^ s : Nat) : Int)) y ≤ hi := by
  unfold ratioR
  intro lo hi h
  split at h
  · rename_i a b c d
    have e1 := h1 a b rfl
    have e2 := h2 c d rfl
    rw [ile_iff, ile_iff, ile_iff, Bool.cond_decide, Bool.cond_decide, Bool.cond_decide] at h
    split at h
    · rename_i hc
      have hp : (0 : Int) ≤ ((2 ^ s : Nat) : Int) := Int.natCast_nonneg _
      have hy : 1 ≤ y := by omega
      obtain ⟨k1, k2⟩ := divZ_pos (v := x * ((2 ^ s : Nat) : Int)) hy
      simp only [Option.some.injEq, Prod.mk.injEq] at h
      obtain ⟨h3, h4⟩ := h
      generalize ((2 ^ s : Nat) : Int) = p at *
      have mono : ∀ {u w : Int}, 0 ≤ w → u ≤ w → u / y ≤ w / c := fun {u w} hw huw => by
        have q1 : u / y ≤ w / y := Int.ediv_le_ediv (by omega) huw
        have q2 : w / y ≤ w / c := by
          have q3 := Int.mul_ediv_self_le (x := w) (k := y) (by omega)
          have q4 : 0 ≤ w / y := Int.ediv_nonneg hw (by omega)
          rw [Int.le_ediv_iff_mul_le (by omega)]
          have q5 : w / y * c ≤ w / y * y := Int.mul_le_mul_of_nonneg_left e2.1 q4
          rw [Int.mul_comm (w / y) y] at q5
          omega
        omega
      have xa : a * p ≤ x * p := Int.mul_le_mul_of_nonneg_right e1.1 hp
      have xb : x * p ≤ b * p := Int.mul_le_mul_of_nonneg_right e1.2 hp
      refine ⟨hy, ?_, ?_⟩
      · by_cases hx : 0 ≤ x
        · have xp : 0 ≤ x * p := Int.mul_nonneg hx hp
          have := (k1 xp).1
          split at h3
          · omega
          · subst h3
            have ap : a * p ≤ 0 := Int.mul_nonpos_of_nonpos_of_nonneg (by omega) hp
            have : 0 ≤ (-(a * p)).fdiv c := by
              rw [Int.fdiv_eq_ediv_of_nonneg _ (by omega)]; exact Int.ediv_nonneg (by omega) (by omega)
            omega
        · have xp : x * p ≤ 0 := Int.mul_nonpos_of_nonpos_of_nonneg (by omega) hp
          have := (k2 xp).1
          rw [if_neg (by omega)] at h3
          subst h3
          rw [Int.fdiv_eq_ediv_of_nonneg _ (by omega)]
          have := mono (u := -(x * p)) (w := -(a * p)) (by omega) (by omega)
          omega
      · by_cases hx : 0 ≤ x
        · have xp : 0 ≤ x * p := Int.mul_nonneg hx hp
          have := (k1 xp).2
          split at h4
          · have : x = 0 := by omega
            subst this
            have := (k2 (by simp)).2
            simp at *
            omega
          · subst h4
            rw [Int.fdiv_eq_ediv_of_nonneg _ (by omega)]
            have := mono (u := x * p) (w := b * p) (by omega) (by omega)
            omega
        · have xp : x * p ≤ 0 := Int.mul_nonpos_of_nonpos_of_nonneg (by omega) hp
          have := (k2 xp).2
          split at h4
          · omega
          · subst h4
            have : 0 ≤ (b * p).fdiv c := by
              rw [Int.fdiv_eq_ediv_of_nonneg _ (by omega)]; exact Int.ediv_nonneg (Int.mul_nonneg (by omega) hp) (by omega)
            omega
    · cases h
  · cases h
theorem div_range {s : Nat} {r q : Rg} {x y : Int} (h1 : within r x) (h2 : within q y) : within (satR (ratioR s r q)) (divv (x * ((2 ^ s : Nat) : Int)) y) := by
  cases hr : ratioR s r q with
  | none =>
    unfold divv
    split
    · exact within_some (side_bd _).1 (side_bd _).2
    · exact sat_mx _
  | some p =>
    obtain ⟨lo, hi⟩ := p
    obtain ⟨hy, k1, k2⟩ := ratioR_ok h1 h2 lo hi hr
    unfold divv
    rw [if_neg (by omega)]
    exact satR_ok (within_some k1 k2)
theorem prod0_ok {r q : Rg} {x y : Int} (h1 : within r x) (h2 : within q y) : within (prod0R r q) (x * y) := by
  unfold prod0R
  split
  · rename_i a b c d
    have e1 := h1 _ _ rfl
    have e2 := h2 _ _ rfl
    have k := mul_ok4 e1.1 e1.2 e2.1 e2.2
    exact within_some k.1 k.2
  · exact within_none _
theorem cap_ok {a b : Int} (s : Nat) (h0 : 0 ≤ a) (h : a ≤ b) : divv (satv a * ((2 ^ s : Nat) : Int)) (satv b) ≤ ((2 ^ s : Nat) : Int) := by
  have k := satv_mono h
  have k0 : 0 ≤ satv a := by unfold satv; (repeat' split) <;> omega
  have hp : (0 : Int) ≤ ((2 ^ s : Nat) : Int) := Int.natCast_nonneg _
  generalize satv a = x at *
  generalize satv b = y at *
  unfold divv
  split
  · rename_i hy
    have : x = 0 := by omega
    subst this
    rw [Int.zero_mul, side_zero]; exact hp
  · have hy : 1 ≤ y := by omega
    have hxp : 0 ≤ x * ((2 ^ s : Nat) : Int) := Int.mul_nonneg k0 hp
    have : divZ (x * ((2 ^ s : Nat) : Int)) y ≤ ((2 ^ s : Nat) : Int) := by
      have hw : ¬ (wh (x * ((2 ^ s : Nat) : Int)) < 0) := by unfold wh; omega
      unfold divZ withSign
      rw [decide_eq_false hw, decide_eq_false (by omega : ¬ y < 0)]
      simp only [bne_self_eq_false, Bool.false_eq_true, if_false]
      have hn : (x * ((2 ^ s : Nat) : Int)).natAbs ≤ 2 ^ s * y.natAbs := by
        rw [Int.natAbs_mul, Nat.mul_comm, Int.natAbs_natCast]
        exact Nat.mul_le_mul (Nat.le_refl _) (by omega)
      generalize (x * ((2 ^ s : Nat) : Int)).natAbs = n at *
      generalize 2 ^ s = p at *
      have hq : n / y.natAbs ≤ p := Nat.div_le_of_le_mul (by rw [Nat.mul_comm]; exact hn)
      have hdm := Nat.div_add_mod n y.natAbs
      have : dq n y.natAbs ≤ p := by
        unfold dq
        split
        · rename_i hr
          rcases Nat.lt_or_ge (n / y.natAbs) p with hl | hl
          · omega
          · have e : n / y.natAbs = p := by omega
            rw [e, Nat.mul_comm] at hdm
            omega
        · exact hq
      omega
    have h2 := satv_mono this
    have h3 : satv ((2 ^ s : Nat) : Int) ≤ ((2 ^ s : Nat) : Int) := by unfold satv; (repeat' split) <;> omega
    omega
theorem cap_nn {a b : Int} (s : Nat) (h0 : 0 ≤ a) (h : a ≤ b) : 0 ≤ divv (satv a * ((2 ^ s : Nat) : Int)) (satv b) := by
  have k := satv_mono h
  have k0 : 0 ≤ satv a := by unfold satv; (repeat' split) <;> omega
  have hp : (0 : Int) ≤ ((2 ^ s : Nat) : Int) := Int.natCast_nonneg _
  generalize satv a = x at *
  generalize satv b = y at *
  unfold divv
  split
  · rename_i hy
    have : x = 0 := by omega
    subst this
    rw [Int.zero_mul, side_zero]; omega
  · have hxp : 0 ≤ x * ((2 ^ s : Nat) : Int) := Int.mul_nonneg k0 hp
    have := ((divZ_pos (v := x * ((2 ^ s : Nat) : Int)) (d := y) (by omega)).1 hxp).1
    generalize divZ (x * ((2 ^ s : Nat) : Int)) y = q at *
    unfold satv
    (repeat' split) <;> omega
theorem cap_lo {a b : Int} (s : Nat) (h0 : 1 ≤ b) (h : b ≤ a) (hm : ((2 ^ s : Nat) : Int) ≤ 1152921504606846976) : ((2 ^ s : Nat) : Int) ≤ divv (satv a * ((2 ^ s : Nat) : Int)) (satv b) := by
  have k := satv_mono h
  have k0 : 1 ≤ satv b := by unfold satv; (repeat' split) <;> omega
  have hp : (0 : Int) ≤ ((2 ^ s : Nat) : Int) := Int.natCast_nonneg _
  generalize satv a = x at *
  generalize satv b = y at *
  unfold divv
  rw [if_neg (by omega)]
  have hxp : 0 ≤ x * ((2 ^ s : Nat) : Int) := Int.mul_nonneg (by omega) hp
  have : ((2 ^ s : Nat) : Int) ≤ divZ (x * ((2 ^ s : Nat) : Int)) y := by
    have hw : ¬ (wh (x * ((2 ^ s : Nat) : Int)) < 0) := by unfold wh; omega
    unfold divZ withSign
    rw [decide_eq_false hw, decide_eq_false (by omega : ¬ y < 0)]
    simp only [bne_self_eq_false, Bool.false_eq_true, if_false]
    have hn : 2 ^ s * y.natAbs ≤ (x * ((2 ^ s : Nat) : Int)).natAbs := by
      rw [Int.natAbs_mul, Int.natAbs_natCast, Nat.mul_comm (x.natAbs)]
      exact Nat.mul_le_mul (Nat.le_refl _) (by omega)
    have hq : 2 ^ s ≤ (x * ((2 ^ s : Nat) : Int)).natAbs / y.natAbs := by
      rw [Nat.le_div_iff_mul_le (by omega)]; exact hn
    unfold dq
    omega
  have h2 := satv_mono this
  have h3 : satv ((2 ^ s : Nat) : Int) = ((2 ^ s : Nat) : Int) := (satv_in (by omega) hm).1
  omega
theorem capL_ok {b : Bool} {s : Nat} {r q : Rg} {x y : Int} (h2 : within q y) (hb : b = true → y ≤ x) (h : within r (divv (satv x * ((2 ^ s : Nat) : Int)) (satv y))) : within (capL b s r q) (divv (satv x * ((2 ^ s : Nat) : Int)) (satv y)) := by
  unfold capL
  split
  · rename_i lo hi c d
    have k := h _ _ rfl
    have k2 := h2 _ _ rfl
    cases hc : (b && (ile 1 c && ile ((2 ^ s : Nat) : Int) mx))
    · exact within_some k.1 k.2
    · rw [Bool.and_eq_true, Bool.and_eq_true, ile_iff, ile_iff, decide_eq_true_eq, decide_eq_true_eq] at hc
      have := cap_lo s (by omega) (hb hc.1) hc.2.2
      rw [imax_eq]
      refine within_some ?_ ?_
      · split <;> omega
      · exact k.2
  · exact h
theorem sumR_ok {g : Sg} : ∀ {xs : List A} {rs : List Rg}, Rs g xs rs → within (sumR rs) (sumL (xs.map (A.val g)))
  | [], [], _ => within_some (Int.le_refl _) (Int.le_refl _)
  | a :: l, r :: rs, ⟨h1, h2⟩ => by
    have k := sumR_ok h2
    have k1 := satR_ok h1
    unfold sumR
    split
    · rename_i p q c d e1 e2
      have e1 := k _ _ e1
      have e2 := k1 _ _ e2
      exact within_some (by simp only [List.map, sumL]; omega) (by simp only [List.map, sumL]; omega)
    · exact within_none _
  | [], _ :: _, h => h.elim
  | _ :: _, [], h => h.elim
theorem sqw_bd (a : Int) : 0 ≤ sqw a ∧ sqw a ≤ 35184372088833 := by
  unfold sqw
  split
  · omega
  · have hm : (satv a).natAbs * 2 ^ 30 ≤ 1237940039285380274899124224 := by
      have := satv_lo a
      have := satv_hi a
      have : (satv a).natAbs * 2 ^ 30 ≤ 1152921504606846976 * 2 ^ 30 := Nat.mul_le_mul_right _ (by omega)
      omega
    have : isq ((satv a).natAbs * 2 ^ 30) ≤ 35184372088832 := isq_le (by omega)
    unfold rootN
    split <;> omega
theorem dotR_ok {g : Sg} : ∀ {xs : List A} {rs : List Rg}, Rs g xs rs → within (dotR rs) (dotL (xs.map (A.val g)))
  | [], [], _ => within_some (Int.le_refl _) (Int.le_refl _)
  | [a], [r], _ => within_some (Int.le_refl _) (Int.le_refl _)
  | a :: b :: l, r :: q :: rs, ⟨h1, h2, h3⟩ => by
    have ih := dotR_ok h3
    simp only [dotR, List.map_cons, dotL]
    split
    · rename_i x y p q c d e1 e2 e3
      have k1 := ih _ _ e1
      have k2 := satR_ok h1 _ _ e2
      have k3 := satR_ok h2 _ _ e3
      have k := mul_ok4 k2.1 k2.2 k3.1 k3.2
      exact within_some (by omega) (by omega)
    · exact within_none _
  | [], _ :: _, h => h.elim
  | _ :: _, [], h => h.elim
  | [_], _ :: _ :: _, ⟨_, h⟩ => h.elim
  | _ :: _ :: _, [_], ⟨_, h⟩ => h.elim
theorem Rs.take {g : Sg} : ∀ {xs : List A} {rs : List Rg} (n : Nat), Rs g xs rs → Rs g (xs.take n) (rs.take n)
  | [], [], n, _ => by cases n <;> trivial
  | a :: l, r :: rs, 0, _ => trivial
  | a :: l, r :: rs, n + 1, ⟨h1, h2⟩ => ⟨h1, Rs.take n h2⟩
  | [], _ :: _, _, h => h.elim
  | _ :: _, [], _, h => h.elim
theorem Rs.drop {g : Sg} : ∀ {xs : List A} {rs : List Rg} (n : Nat), Rs g xs rs → Rs g (xs.drop n) (rs.drop n)
  | [], [], n, _ => by cases n <;> trivial
  | a :: l, r :: rs, 0, h => h
  | a :: l, r :: rs, n + 1, ⟨_, h2⟩ => Rs.drop n h2
  | [], _ :: _, _, h => h.elim
  | _ :: _, [], _, h => h.elim
theorem rndR_ok {s : Nat} {r : Rg} {v : Int} (h : within r v) : within (rndR s r) (rnd v s) := by
  unfold rndR
  split
  · have e := h _ _ rfl
    have := rndI_in s e.1 e.2
    exact within_some this.1 this.2
  · exact within_none _
theorem lessR_ok {r q : Rg} {x y : Int} (h1 : within r x) (h2 : within q y) : within (lessR r q) (x - y) := by
  unfold lessR
  split
  · have e1 := h1 _ _ rfl
    have e2 := h2 _ _ rfl
    exact within_some (by omega) (by omega)
  · exact within_none _
theorem sqL_nn : ∀ l : List Int, 0 ≤ sqL l ∧ 0 ≤ absL l ∧ sqL l ≤ absL l * absL l
  | [] => ⟨by decide, by decide, by decide⟩
  | a :: l => by
    obtain ⟨h1, h2, h3⟩ := sqL_nn l
    simp only [sqL, absL]
    have e : satv a * satv a = ((satv a).natAbs : Int) * ((satv a).natAbs : Int) := by
      rcases Int.le_total 0 (satv a) with h | h
      · rw [Int.natAbs_of_nonneg h]
      · have e : ((satv a).natAbs : Int) = -satv a := by omega
        rw [e, Int.neg_mul_neg]
    rw [e]
    have hn : (0 : Int) ≤ ((satv a).natAbs : Int) := by omega
    generalize ((satv a).natAbs : Int) = x at *
    have k1 := Int.mul_nonneg hn hn
    have k2 := Int.mul_nonneg h2 hn
    rw [Int.add_mul, Int.mul_add, Int.mul_add, Int.mul_comm x (absL l)]
    generalize absL l * x = p at *
    generalize x * x = q at *
    generalize absL l * absL l = t at *
    omega
theorem rootN_le {n m : Nat} (h : n ≤ m * m) : rootN n ≤ m := by
  obtain ⟨h1, h2⟩ := isq_spec n
  have h3 : isq n ≤ m := isq_le (by
    have : m * m < (m + 1) * (m + 1) := Nat.mul_lt_mul_of_lt_of_le (by omega) (by omega) (by omega)
    omega)
  unfold rootN
  split
  · rename_i h4
    rcases Nat.lt_or_ge (isq n) m with h5 | h5
    · omega
    · have e : isq n = m := by omega
      rw [e] at h1 h4
      omega
  · omega
theorem hyp_le (l : List Int) : ((rootN (sqL l).toNat : Nat) : Int) ≤ absL l := by
  obtain ⟨h1, h2, h3⟩ := sqL_nn l
  have h4 : (sqL l).toNat ≤ (absL l).toNat * (absL l).toNat := by
    have e : (((absL l).toNat * (absL l).toNat : Nat) : Int) = absL l * absL l := by
      rw [Int.natCast_mul, Int.toNat_of_nonneg h2]
    omega
  have := rootN_le h4
  omega
theorem hypR_ok {g : Sg} : ∀ {xs : List A} {rs : List Rg}, Rs g xs rs → ∀ a b, hypR rs = some (a, b) → a = 0 ∧ absL (xs.map (A.val g)) ≤ b
  | [], [], _, a, b, h => by cases h; exact ⟨rfl, Int.le_refl 0⟩
  | x :: l, r :: rs, ⟨h1, h2⟩, a, b, h => by
    unfold hypR at h
    split at h
    · rename_i p y c d e1 e2
      cases h
      have k1 := hypR_ok h2 _ _ e1
      have k2 := satR_ok h1 _ _ e2
      refine ⟨rfl, ?_⟩
      simp only [List.map_cons, absL]
      rw [imax_eq]
      split <;> omega
    · cases h
  | [], _ :: _, h, _, _, _ => h.elim
  | _ :: _, [], h, _, _, _ => h.elim
theorem sp_root (n : Nat) : Nm.Sp ((rootN n : Nat) : Int) (n : Int) := by
  obtain ⟨h1, h2⟩ := isq_spec n
  have e1 : ((isq n : Nat) : Int) * ((isq n : Nat) : Int) ≤ (n : Int) := by rw [← Int.natCast_mul]; omega
  have e2 : (n : Int) < (((isq n : Nat) : Int) + 1) * (((isq n : Nat) : Int) + 1) := by
    have : (((isq n + 1) * (isq n + 1) : Nat) : Int) = (((isq n : Nat) : Int) + 1) * (((isq n : Nat) : Int) + 1) := by rw [Int.natCast_mul]; rfl
    omega
  unfold rootN
  have e3 : ((isq n * isq n : Nat) : Int) = ((isq n : Nat) : Int) * ((isq n : Nat) : Int) := Int.natCast_mul _ _
  have e4 : (((isq n : Nat) : Int) + 1) * (((isq n : Nat) : Int) + 1) = ((isq n : Nat) : Int) * ((isq n : Nat) : Int) + 2 * ((isq n : Nat) : Int) + 1 := by rw [Int.add_mul, Int.mul_add]; omega
  split
  · rename_i h
    have e5 : ((isq n + 1 : Nat) : Int) = ((isq n : Nat) : Int) + 1 := rfl
    rw [e5]
    exact ⟨by omega, by omega, .inr (by omega)⟩
  · rename_i h
    rw [Nat.add_zero]
    refine ⟨by omega, by omega, ?_⟩
    rcases Nat.eq_zero_or_pos (isq n) with h0 | h0
    · exact .inl (by omega)
    · exact .inr (by omega)
theorem divZ_near {v d : Int} (hd : 1 ≤ d) : -d ≤ 2 * (d * divZ v d - v) ∧ 2 * (d * divZ v d - v) ≤ d := by
  have hdn : decide (d < 0) = false := decide_eq_false (by omega)
  have hq : ∀ n m : Nat, 0 < m → 2 * (m * dq n m) ≤ 2 * n + m ∧ 2 * n ≤ 2 * (m * dq n m) + m := fun n m hm => by
    have h1 := Nat.div_add_mod n m
    have h2 := Nat.mod_lt n hm
    unfold dq
    generalize n % m = r at *
    generalize n / m = q at *
    split
    · rw [Nat.mul_add]; omega
    · rw [Nat.add_zero]; omega
  have h := hq v.natAbs d.natAbs (by omega)
  have e : (d : Int) * ((dq v.natAbs d.natAbs : Nat) : Int) = ((d.natAbs * dq v.natAbs d.natAbs : Nat) : Int) := by
    rw [Int.natCast_mul]; congr 1; omega
  rw [divZ_sign, hdn]
  unfold withSign
  by_cases hv : v < 0
  · rw [decide_eq_true hv]
    simp only [Bool.true_bne, Bool.not_false, if_true]
    rw [Int.mul_neg, e]
    clear e
    generalize d.natAbs * dq v.natAbs d.natAbs = t at *
    omega
  · rw [decide_eq_false hv]
    simp only [bne_self_eq_false, Bool.false_eq_true, if_false]
    rw [e]
    clear e
    generalize d.natAbs * dq v.natAbs d.natAbs = t at *
    omega
theorem sqL_mem : ∀ {l : List Int} {x : Int}, x ∈ l → satv x * satv x ≤ sqL l
  | [], _, h => by cases h
  | a :: l, x, h => by
    have h1 := (sqL_nn l).1
    have h2 := Nm.sqnn (satv a)
    simp only [sqL]
    rcases List.mem_cons.1 h with rfl | h
    · omega
    · have := sqL_mem h; omega
/-- A number divided by a length that it is one of. -/
theorem len_div (l : List Int) (x : Int) (s : Nat) (hx : x ∈ l) : -((2 ^ s : Nat) : Int) ≤ U 4 [x, U 32 l, (s : Int)] ∧ U 4 [x, U 32 l, (s : Int)] ≤ ((2 ^ s : Nat) : Int) := by
  have hp : (0 : Int) ≤ ((2 ^ s : Nat) : Int) := Int.natCast_nonneg _
  show -((2 ^ s : Nat) : Int) ≤ divv (satv x * 2 ^ (s : Int).toNat) (satv (satv (rootF (sqL l).toNat : Nat))) ∧ divv (satv x * 2 ^ (s : Int).toNat) (satv (satv (rootF (sqL l).toNat : Nat))) ≤ ((2 ^ s : Nat) : Int)
  rw [Int.toNat_natCast, show (2 : Int) ^ s = ((2 ^ s : Nat) : Int) by simp, rootF_eq]
  have hr := sp_root (sqL l).toNat
  rw [Int.toNat_of_nonneg (sqL_nn l).1] at hr
  have hm := Nm.abs_le_of hr.nn (Int.le_trans (sqL_mem hx) hr.hi)
  have b1 := satv_lo x
  have b2 := satv_hi x
  generalize ((rootN (sqL l).toNat : Nat) : Int) = R at *
  have hn := hr.nn
  have e : satv (satv R) = satv R := (satv_in (satv_lo _) (satv_hi _)).1
  rw [e]
  have hN : -satv R ≤ satv x ∧ satv x ≤ satv R := by
    generalize satv x = y at *
    unfold satv
    (repeat' split) <;> omega
  have hN0 : 0 ≤ satv R := by unfold satv; (repeat' split) <;> omega
  generalize satv R = N at *
  generalize satv x = y at *
  unfold divv
  split
  · rename_i h0
    have : y = 0 := by omega
    rw [this, Int.zero_mul, side_zero]
    omega
  · have k := Nm.cap_of (P := N) (K := ((2 ^ s : Nat) : Int)) (by omega) hp hN (divZ_near (v := y * ((2 ^ s : Nat) : Int)) (by omega))
    generalize divZ (y * ((2 ^ s : Nat) : Int)) N = z at *
    unfold satv
    (repeat' split) <;> omega
instance : UOk1 U where
  lenD := len_div
  clamp a lo hi h := by
    show clampv a lo hi = _
    unfold clampv
    rw [if_neg (by omega)]
  ok := fun g le n xs rs hle h => by
    unfold rngU
    split
    · match xs, h with
      | [a], ⟨h1, _⟩ => exact satR_ok h1
    · rename_i a b s r1 r2 _
      obtain ⟨h1, h2, _⟩ := h
      cases hb : A.beq a b
      · exact satR_ok (prodR_ok (satR_ok h1) (satR_ok h2))
      · obtain rfl := A.beq_eq hb
        exact satR_ok (sqrR_ok (satR_ok h1))
    · rename_i a b s r1 r2 _
      obtain ⟨h1, h2, _⟩ := h
      have hd := div_range (s := s) (satR_ok h1) (satR_ok h2)
      have e : U 4 (List.map (A.val g) [a, b, .k (.ofNat s)]) = divv (satv (a.val g) * ((2 ^ s : Nat) : Int)) (satv (b.val g)) := by
        show divv (satv (a.val g) * 2 ^ s) (satv (b.val g)) = _
        rw [show (((2 ^ s : Nat)) : Int) = 2 ^ s by simp]
      rw [e]
      refine capL_ok h2 (fun hb => hle _ _ hb) ?_
      unfold capR
      split
      · rename_i lo hi a1 b1 hr
        have k := hd _ _ hr
        have k1 := h1 _ _ rfl
        cases hc : (le a b && ile 0 a1)
        · exact within_some k.1 k.2
        · rw [Bool.and_eq_true, ile_iff, decide_eq_true_eq] at hc
          have := cap_ok s (by omega) (hle _ _ hc.1)
          have := cap_nn s (by omega) (hle _ _ hc.1)
          rw [imin_eq, imax_eq]
          refine within_some ?_ ?_ <;> split <;> omega
      · exact hd
    · match xs, h with
      | [a, b], ⟨h1, h2, _⟩ =>
        refine satR_ok ?_
        split
        · rename_i e1 e2
          have e1 := satR_ok h1 _ _ e1
          have e2 := satR_ok h2 _ _ e2
          exact within_some (by omega) (by omega)
        · exact within_none _
    · rename_i a lo hi r _ _
      obtain ⟨h1, _⟩ := h
      show within _ (clampv (a.val g) lo hi)
      unfold clampR
      split
      · rename_i p q
        have e := h1 _ _ rfl
        rw [ile_iff, Bool.cond_decide]
        split
        · unfold clampv
          rw [clampI_eq, clampI_eq]
          refine within_some ?_ ?_
          · repeat' split
            all_goals omega
          · repeat' split
            all_goals omega
        · exact within_none _
      · rw [ile_iff, Bool.cond_decide]
        split
        · unfold clampv
          refine within_some ?_ ?_
          · repeat' split
            all_goals omega
          · repeat' split
            all_goals omega
        · exact within_none _
    · match xs, h with
      | [a], ⟨h1, _⟩ =>
        show within _ (absv (a.val g))
        unfold absR
        split
        · rename_i p q
          have e := h1 _ _ rfl
          rw [ile_iff, ile_iff, Bool.cond_decide, Bool.cond_decide]
          simp only [imin_eq, imax_eq]
          unfold absv mx
          split
          · refine within_some ?_ ?_
            · repeat' split
              all_goals omega
            · repeat' split
              all_goals omega
          · split
            · refine within_some ?_ ?_
              · repeat' split
                all_goals omega
              · repeat' split
                all_goals omega
            · refine within_some ?_ ?_
              · repeat' split
                all_goals omega
              · repeat' split
                all_goals omega
        · unfold absv mx
          refine within_some ?_ ?_
          · repeat' split
            all_goals omega
          · repeat' split
            all_goals omega
    · exact satR_ok (sumR_ok h)
    · unfold U
      simp only
      split
      · rw [sqwF_eq]; exact within_some (sqw_bd _).1 (sqw_bd _).2
      · exact within_some (by decide) (by decide)
    · match xs, h with
      | [a, b, c], ⟨h1, h2, h3, _⟩ =>
        have hd := div_range (s := 0) (prod0_ok (satR_ok h1) (satR_ok h2)) (satR_ok h3)
        have e : U 6 (List.map (A.val g) [a, b, c]) = divv (satv (a.val g) * satv (b.val g) * ((2 ^ 0 : Nat) : Int)) (satv (c.val g)) := by
          show divv (satv (a.val g) * satv (b.val g)) (satv (c.val g)) = _
          rw [show ((2 ^ 0 : Nat) : Int) = 1 from rfl, Int.mul_one]
        rw [e]
        exact hd
    · unfold U
      simp only
      split
      · unfold divv
        split
        · exact within_some (side_bd _).1 (side_bd _).2
        · exact sat_mx _
      · exact within_some (by decide) (by decide)
    · obtain ⟨_, h⟩ := h
      exact satR_ok (rndR_ok (dotR_ok h))
    · rename_i s n xs _ _ rs
      obtain ⟨_, _, h⟩ := h
      show within _ (satv (rnd (dotL ((xs.map (A.val g)).take (2 * n)) - dotL ((xs.map (A.val g)).drop (2 * n))) s))
      rw [← List.map_take, ← List.map_drop]
      exact satR_ok (rndR_ok (lessR_ok (dotR_ok (h.take _)) (dotR_ok (h.drop _))))
    · show within (satR (hypR _)) (satv (rootF (sqL (List.map (A.val g) _)).toNat : Nat))
      rw [rootF_eq]
      refine satR_ok fun a b e => ?_
      have k := hypR_ok h a b e
      have := hyp_le (List.map (A.val g) xs)
      omega
    · unfold U
      simp only
      split
      · have := sineF_bd ‹Int›
        exact within_some (by omega) (by omega)
      · exact within_some (by decide) (by decide)
    · unfold U
      simp only
      split
      · have := sinF_bd ‹Int›
        exact within_some (by omega) (by omega)
      · exact within_some (by decide) (by decide)
    · unfold U
      simp only
      split
      · have := slopeF_bd ‹Int›
        exact within_some (by omega) (by omega)
      · exact within_some (by decide) (by decide)
    · unfold U
      simp only
      split
      · rename_i y x _
        have := atanF_bd y x
        exact within_some (by omega) (by omega)
      · exact within_some (by decide) (by decide)
    · unfold U
      simp only
      split
      · exact within_some (atV_bd _ _ _).1 (atV_bd _ _ _).2
      · exact within_some (by decide) (by decide)
    · unfold U
      simp only
      split
      · exact within_some (by unfold clampv; (repeat' split) <;> omega) (by unfold clampv; (repeat' split) <;> omega)
      · exact within_some (by decide) (by decide)
    · unfold U
      simp only
      split
      · exact within_some (by unfold clampv; (repeat' split) <;> omega) (by unfold clampv; (repeat' split) <;> omega)
      · exact within_some (by decide) (by decide)
    · rename_i q1 q2 r1 q3 r2
      match xs, h with
      | [i, j, v, k, a], ⟨_, _, h1, _, h2, _⟩ =>
        show within _ (setC (i.val g) (j.val g) (v.val g) (k.val g) (a.val g))
        have := hullR_ok (decide (aboveB (i.val g) (j.val g) = true ∧ plc (i.val g) (j.val g) = k.val g)) h1 h2
        unfold setC
        split
        · rename_i hc; rw [decide_eq_true hc, cond_true] at this; exact this
        · rename_i hc; rw [decide_eq_false hc, cond_false] at this; exact this
    · exact within_none _
/-! ### Lengths -/
def Nl (l : List Int) : Int := ((rootN (sqL l).toNat : Nat) : Int)
theorem U32 (l : List Int) : U 32 l = satv (Nl l) := by
  show satv (rootF (sqL l).toNat : Nat) = _
  rw [rootF_eq]; rfl
theorem sp_of (l : List Int) : Nm.Sp (Nl l) (sqL l) := by
  have h := sp_root (sqL l).toNat
  rwa [Int.toNat_of_nonneg (sqL_nn l).1] at h
theorem sqL_sq : ∀ l : List Int, sqL l = Nm.sq (l.map satv)
  | [] => rfl
  | a :: l => by simp only [sqL, List.map_cons, Nm.sq, sqL_sq l]
theorem satv_mono {a b : Int} (h : a ≤ b) : satv a ≤ satv b := by unfold satv; (repeat' split) <;> omega
theorem satv_id {a : Int} (h1 : -mx ≤ a) (h2 : a ≤ mx) : satv a = a := by unfold mx at *; unfold satv; rw [if_neg (by omega), if_neg (by omega)]
section
variable {g : Sg} {st : St}
theorem uArgs_ok (hg : Good U g st) {k : Nat} {a : A} {xs : List A} (h : uArgs st k a = some xs) : a.val g = U k (xs.map (A.val g)) := by
  cases a with
  | k z => simp [uArgs] at h
  | x n =>
    unfold uArgs at h
    simp only at h
    split at h
    · rename_i m ys hd
      rw [nbeq, Bool.cond_decide] at h
      split at h
      · rename_i e
        subst e
        cases h
        exact hg.defs n _ _ hd
      · cases h
    · cases h
theorem inM_ok {r : Rg} {z : Int} (h : inM r = true) (hw : within r z) : -mx ≤ z ∧ z ≤ mx := by
  unfold inM at h
  split at h
  · have e := hw _ _ rfl
    rw [Bool.and_eq_true, ile_iff, ile_iff, decide_eq_true_eq, decide_eq_true_eq] at h
    omega
  · cases h
theorem allM_ok (hg : Good U g st) : ∀ {l : List A}, allM st l = true → (l.map (A.val g)).map satv = l.map (A.val g)
  | [], _ => rfl
  | a :: l, h => by
    unfold allM at h
    rw [Bool.and_eq_true] at h
    have h1 := inM_ok h.1 (range_ok hg a)
    simp only [List.map_cons, allM_ok hg h.2, satv_id h1.1 h1.2]
theorem rs_all (hg : Good U g st) : ∀ l : List A, Rs g l (l.map (rangeOf st))
  | [] => trivial
  | a :: l => ⟨range_ok hg a, rs_all hg l⟩
theorem hyp_in (hg : Good U g st) {l : List A} (h : inM (hypR (l.map (rangeOf st))) = true) : U 32 (l.map (A.val g)) = Nl (l.map (A.val g)) := by
  rw [U32]
  have h0 := (sp_of (l.map (A.val g))).nn
  have key : ∀ r, hypR (l.map (rangeOf st)) = r → inM r = true → Nl (l.map (A.val g)) ≤ mx := fun r hr hm => by
    match r, hm with
    | some (a, b), hm =>
      have k := hypR_ok (rs_all hg l) a b hr
      have k2 := hyp_le (l.map (A.val g))
      unfold inM at hm
      rw [Bool.and_eq_true, ile_iff, ile_iff, decide_eq_true_eq, decide_eq_true_eq] at hm
      unfold Nl
      omega
  exact satv_id (by unfold mx; omega) (key _ rfl h)
theorem isPre_ok : ∀ {xs ys : List A}, isPre xs ys = true → sqL (xs.map (A.val g)) ≤ sqL (ys.map (A.val g))
  | [], ys, _ => (sqL_nn _).1
  | a :: l, b :: m, h => by
    unfold isPre at h
    rw [Bool.and_eq_true] at h
    rw [A.beq_eq h.1]
    have := isPre_ok h.2
    simp only [List.map_cons, sqL]
    omega
  | _ :: _, [], h => by cases h
theorem preO_ok (hg : Good U g st) {s n : A} (h : preO st s n = true) : s.val g ≤ n.val g := by
  unfold preO at h
  split at h
  · rename_i xs ys h1 h2
    rw [uArgs_ok hg h1, uArgs_ok hg h2, U32, U32]
    exact satv_mono ((sp_of _).mono (sp_of _) (isPre_ok h))
  · cases h
theorem sqL_snoc (y : Int) : ∀ l : List Int, sqL (l ++ [y]) = sqL l + satv y * satv y
  | [] => rfl
  | a :: l => by simp only [List.cons_append, sqL, sqL_snoc y l]; omega
theorem satv_lip {a b : Int} (h1 : a ≤ b + 1) : satv a ≤ satv b + 1 := by unfold satv; (repeat' split) <;> omega
theorem joinO_ok (hg : Good U g st) {s n : A} (h : joinO st s n = true) : s.val g ≤ n.val g + 1 ∧ n.val g ≤ s.val g + 1 := by
  unfold joinO at h
  split at h
  · rename_i hh y ys h1 h2
    split at h
    · rename_i xs h3
      rw [Bool.and_eq_true] at h
      obtain ⟨k1, k2⟩ := h
      have k1 := beqL_eq k1
      subst k1
      have e3 : hh.val g = Nl (xs.map (A.val g)) := by rw [uArgs_ok hg h3, hyp_in hg k2]
      have b3 : satv (hh.val g) = hh.val g := by rw [uArgs_ok hg h3, U32]; exact satv_id (satv_lo _) (satv_hi _)
      rw [uArgs_ok hg h1, uArgs_ok hg h2, U32, U32]
      have s1 := sp_of ([hh, y].map (A.val g))
      have s2 := sp_of ((xs ++ [y]).map (A.val g))
      have s3 := sp_of (xs.map (A.val g))
      have q1 : sqL ([hh, y].map (A.val g)) = Nl (xs.map (A.val g)) * Nl (xs.map (A.val g)) + satv (y.val g) * satv (y.val g) := by
        rw [← e3]
        simp only [List.map_cons, List.map_nil, sqL, b3]; omega
      have q2 : sqL ((xs ++ [y]).map (A.val g)) = sqL (xs.map (A.val g)) + satv (y.val g) * satv (y.val g) := by
        rw [List.map_append]; exact sqL_snoc _ _
      rw [q1] at s1
      rw [q2] at s2
      obtain ⟨j1, j2⟩ := s3.join s1 s2 (Nm.sqnn _) (sqL_nn _).1
      exact ⟨satv_lip j1, satv_lip j2⟩
    · cases h
  · cases h
theorem linB_ok : ∀ {l m : List (Int × A)}, linB l m = true → valF g l = valF g m
  | [], [], _ => rfl
  | (c, a) :: l, (d, b) :: m, h => by
    unfold linB at h
    rw [Bool.and_eq_true, Bool.and_eq_true, ieq_iff, decide_eq_true_eq] at h
    have := linB_ok h.2.2
    rw [h.1, A.beq_eq h.2.1]
    simp only [valF, this]
  | [], _ :: _, h => by cases h
  | _ :: _, [], h => by cases h
theorem isSum_ok (hg : Good U g st) {t a b : A} (h : isSum st t a b = true) : t.val g = a.val g + b.val g := by
  have e1 := linF_val hg t
  have e2 := linF_val hg a
  have e3 := linF_val hg b
  unfold isSum at h
  rw [Bool.and_eq_true, ieq_iff, decide_eq_true_eq] at h
  obtain ⟨h1, h2⟩ := h
  have h2 := linB_ok (g := g) h2
  rw [addF_val] at h2
  omega
theorem isSums_ok (hg : Good U g st) : ∀ {ts al bs : List A}, isSums st ts al bs = true → ts.map (A.val g) = Nm.ad (al.map (A.val g)) (bs.map (A.val g)) ∧ al.length = bs.length
  | [], [], [], _ => ⟨rfl, rfl⟩
  | t :: ts, a :: al, b :: bs, h => by
    unfold isSums at h
    rw [Bool.and_eq_true] at h
    obtain ⟨k1, k2⟩ := isSums_ok hg h.2
    exact ⟨by simp only [List.map_cons, Nm.ad, k1, isSum_ok hg h.1], by simp [k2]⟩
  | [], _ :: _, _, h => by cases h
  | [], [], _ :: _, h => by cases h
  | _ :: _, [], _, h => by cases h
  | _ :: _, _ :: _, [], h => by cases h
theorem triO_ok (hg : Good U g st) {s n m : A} (h : triO st s n m = true) : s.val g ≤ n.val g + m.val g + 2 := by
  unfold triO at h
  split at h
  · rename_i ts al bs h1 h2 h3
    simp only [Bool.and_eq_true] at h
    obtain ⟨k1, k2, k3, k4, k5, k6⟩ := h
    obtain ⟨e1, e2⟩ := isSums_ok hg k1
    rw [uArgs_ok hg h1, uArgs_ok hg h2, uArgs_ok hg h3, hyp_in hg k5, hyp_in hg k6, U32]
    have s1 := sp_of (ts.map (A.val g))
    have s2 := sp_of (al.map (A.val g))
    have s3 := sp_of (bs.map (A.val g))
    rw [sqL_sq, allM_ok hg k2, e1] at s1
    rw [sqL_sq, allM_ok hg k3] at s2
    rw [sqL_sq, allM_ok hg k4] at s3
    have := Nm.Sp.tri (by simp [e2]) s1 s2 s3
    rw [e1]
    have h0 := s1.nn
    generalize Nl (Nm.ad (al.map (A.val g)) (bs.map (A.val g))) = z at *
    have h9 : satv z ≤ z := by unfold satv; (repeat' split) <;> omega
    omega
  · cases h
theorem isMul_ok (hg : Good U g st) {y a k : A} (h : isMul st y a k = true) (ha : satv (a.val g) = a.val g) (hk : satv (k.val g) = k.val g) :
    -1073741824 ≤ 2 * (1073741824 * y.val g - a.val g * k.val g) ∧ 2 * (1073741824 * y.val g - a.val g * k.val g) ≤ 1073741824 := by
  unfold isMul at h
  split at h
  · rename_i b c s h1
    rw [Bool.and_eq_true, Bool.and_eq_true, nbeq, decide_eq_true_eq, Bool.or_eq_true, Bool.and_eq_true, Bool.and_eq_true] at h
    obtain ⟨⟨rfl, h2⟩, h3⟩ := h
    have e : y.val g = satv (rnd (a.val g * k.val g) 30) := by
      rw [uArgs_ok hg h1]
      show satv (rnd (satv (b.val g) * satv (c.val g)) 30) = _
      rcases h2 with ⟨x1, x2⟩ | ⟨x1, x2⟩
      · rw [A.beq_eq x1, A.beq_eq x2, ha, hk]
      · rw [A.beq_eq x1, A.beq_eq x2, ha, hk, Int.mul_comm]
    have h4 := inM_ok h3 (prodR_ok (s := 30) (range_ok hg a) (range_ok hg k))
    rw [satv_id h4.1 h4.2] at e
    have := rnd_nr (a.val g * k.val g) 30
    rw [e]
    have e30 : ((2 ^ 30 : Nat) : Int) = 1073741824 := rfl
    rw [e30] at this
    exact this
  · cases h
theorem isMuls_ok (hg : Good U g st) {k : A} (hk : satv (k.val g) = k.val g) : ∀ {ys al : List A}, isMuls st k ys al = true → (al.map (A.val g)).map satv = al.map (A.val g) → Nm.Near 1073741824 (k.val g) (ys.map (A.val g)) (al.map (A.val g))
  | [], [], _, _ => trivial
  | y :: ys, a :: al, h, ha => by
    unfold isMuls at h
    rw [Bool.and_eq_true] at h
    simp only [List.map_cons, List.cons.injEq] at ha
    exact ⟨isMul_ok hg h.1 ha.1 hk, isMuls_ok hg hk h.2 ha.2⟩
  | [], _ :: _, h, _ => by cases h
  | _ :: _, [], h, _ => by cases h
theorem isMuls_in (hg : Good U g st) {k : A} (hk : satv (k.val g) = k.val g) : ∀ {ys al : List A}, isMuls st k ys al = true → (ys.map (A.val g)).map satv = ys.map (A.val g)
  | [], _, _ => rfl
  | y :: ys, a :: al, h => by
    unfold isMuls at h
    rw [Bool.and_eq_true] at h
    have h1 := h.1
    unfold isMul at h1
    split at h1
    · rename_i b c s h2
      have e : satv (y.val g) = y.val g := by
        rw [uArgs_ok hg h2]
        exact satv_id (satv_lo _) (satv_hi _)
      simp only [List.map_cons, e, isMuls_in hg hk h.2]
    · cases h1
  | _ :: _, [], h => by cases h
theorem scaleO_ok (hg : Good U g st) {t w : A} (h : scaleO st t w = true) : t.val g ≤ w.val g + 18 ∧ w.val g ≤ t.val g + 18 := by
  unfold scaleO at h
  split at h
  · rename_i ys n k h1 h2
    split at h
    · rename_i al h3
      simp only [Bool.and_eq_true] at h
      obtain ⟨k1, k2, k3, k4, k5, k6, k7, k8⟩ := h
      rw [nble, decide_eq_true_eq] at k3
      have hk := inM_ok k5 (range_ok hg k)
      have hk' := satv_id hk.1 hk.2
      have ha := allM_ok hg k4
      have hkr : 0 ≤ k.val g ∧ k.val g ≤ 17179869184 := by
        have hr := range_ok hg k
        split at k6
        · rename_i a b e
          rw [e] at hr
          have := hr _ _ rfl
          rw [Bool.and_eq_true, ile_iff, ile_iff, decide_eq_true_eq, decide_eq_true_eq] at k6
          omega
        · cases k6
      have hn : n.val g = Nl (al.map (A.val g)) := by rw [uArgs_ok hg h3, hyp_in hg k7]
      have hns : satv (n.val g) = n.val g := by rw [uArgs_ok hg h3, U32]; exact satv_id (satv_lo _) (satv_hi _)
      have ht : t.val g = Nl (ys.map (A.val g)) := by rw [uArgs_ok hg h1, hyp_in hg k8]
      have hw := isMul_ok hg k1 hns hk'
      have s1 := sp_of (ys.map (A.val g))
      have s2 := sp_of (al.map (A.val g))
      rw [sqL_sq, isMuls_in hg hk' k2] at s1
      rw [sqL_sq, ha] at s2
      rw [← ht] at s1
      rw [← hn] at s2
      exact Nm.Sp.scale (by omega) hkr.1 (by omega) (isMuls_ok hg hk' k2 ha) (by simpa using k3) s1 s2 hw.1 hw.2
    · cases h
  · cases h
theorem over1_ok (hg : Good U g st) {k : Int} {s n : A} (h : overO.over1 st k s n = true) : k + s.val g - n.val g ≤ 0 := by
  unfold overO.over1 at h
  simp only [Bool.or_eq_true, Bool.and_eq_true, ile_iff, decide_eq_true_eq] at h
  rcases h with (⟨h1, h2⟩ | ⟨h1, h2 | h2⟩) | ⟨h1, h2 | h2⟩
  · have := preO_ok hg h2; omega
  · have := (joinO_ok hg h2).1; omega
  · have := (joinO_ok hg h2).2; omega
  · have := (scaleO_ok hg h2).1; omega
  · have := (scaleO_ok hg h2).2; omega
theorem overO_ok (hg : Good U g st) {k : Int} {l : List (Int × A)} (h : overO st k l = true) : k + valF g l ≤ 0 := by
  unfold overO at h
  split at h
  · rename_i c s d n
    simp only [valF]
    cases h1 : (ieq c 1 && ieq d (-1))
    · rw [h1, cond_false] at h
      cases h2 : (ieq c (-1) && ieq d 1)
      · rw [h2] at h; cases h
      · rw [h2, cond_true] at h
        rw [Bool.and_eq_true, ieq_iff, ieq_iff, decide_eq_true_eq, decide_eq_true_eq] at h2
        have := over1_ok hg h
        rw [h2.1, h2.2]
        omega
    · rw [h1, cond_true] at h
      rw [Bool.and_eq_true, ieq_iff, ieq_iff, decide_eq_true_eq, decide_eq_true_eq] at h1
      have := over1_ok hg h
      rw [h1.1, h1.2]
      omega
  · rename_i c s d n e m
    simp only [valF]
    simp only [Bool.or_eq_true, Bool.and_eq_true, ile_iff, ieq_iff, decide_eq_true_eq] at h
    obtain ⟨hk, (⟨rfl, rfl, rfl, h⟩ | ⟨rfl, rfl, rfl, h⟩) | ⟨rfl, rfl, rfl, h⟩⟩ := h
    · have := triO_ok hg h; omega
    · have := triO_ok hg h; omega
    · have := triO_ok hg h; omega
  · cases h
/-! ### Sums of products -/
def mv (g : Sg) : List A → Int
  | [] => 1
  | a :: l => a.val g * mv g l
def tv (g : Sg) (t : Mo) : Int := t.1 * mv g t.2
def pv (g : Sg) : List Mo → Int
  | [] => 0
  | t :: p => tv g t + pv g p
theorem insM_v (a : A) : ∀ l, mv g (insM a l) = a.val g * mv g l
  | [] => rfl
  | b :: l => by
    unfold insM
    cases Nat.ble a.num b.num
    · rw [cond_false]
      simp only [mv, insM_v a l]
      grind
    · rfl
theorem facM_v (a : A) (t : Mo) : tv g (facM a t) = a.val g * tv g t := by
  cases a with
  | k z => show z * t.1 * mv g t.2 = z * (t.1 * mv g t.2); grind
  | x n =>
    show t.1 * mv g (insM (.x n) t.2) = _
    rw [insM_v]
    unfold tv
    grind
theorem insP_v (t : Mo) : ∀ p, pv g (insP t p) = tv g t + pv g p
  | [] => rfl
  | u :: r => by
    unfold insP
    cases hb : A.beqL t.2 u.2
    · rw [cond_false]
      simp only [pv, insP_v t r]
      omega
    · rw [cond_true]
      have e := beqL_eq hb
      cases hz : ieq (t.1 + u.1) 0
      · rw [cond_false]
        simp only [pv, tv, e]
        grind
      · rw [cond_true]
        rw [ieq_iff, decide_eq_true_eq] at hz
        simp only [pv, tv, e]
        have : (t.1 + u.1) * mv g u.2 = 0 := by rw [hz, Int.zero_mul]
        grind
theorem addP_v : ∀ p q, pv g (addP p q) = pv g p + pv g q
  | [], q => by simp [addP, pv]
  | t :: p, q => by
    simp only [addP, pv, addP_v p, insP_v]
    omega
def dP : List Int → Int
  | a :: b :: l => dP l + a * b
  | _ => 0
theorem dP_dot : ∀ {l : List Int}, l.map satv = l → dotL l = dP l
  | [], _ => rfl
  | [_], _ => rfl
  | a :: b :: l, h => by
    simp only [List.map_cons, List.cons.injEq] at h
    simp only [dotL, dP, h.1, h.2.1, dP_dot h.2.2]
theorem dotP_v (c : Int) : ∀ l, pv g (dotP c l) = c * dP (l.map (A.val g))
  | [] => by simp [dotP, pv, dP]
  | [_] => by simp [dotP, pv, dP]
  | a :: b :: l => by
    have := dotP_v c l
    simp only [dotP, pv, facM_v, this, List.map_cons, dP]
    show a.val g * (b.val g * (c * 1)) + _ = _
    grind
theorem app_v : ∀ p q, pv g (p ++ q) = pv g p + pv g q
  | [], q => by simp [pv]
  | t :: p, q => by simp only [List.cons_append, pv, app_v p q]; omega
theorem linP_v (k : Int) : ∀ cs xs, pv g (linP k cs xs) = linV k cs (xs.map (A.val g))
  | [], xs => by
    have : linV k [] (xs.map (A.val g)) = k := by cases xs <;> rfl
    rw [this]; simp [linP, pv, tv, mv]
  | c :: cs, [] => by simp [linP, pv, tv, mv, linV]
  | c :: cs, x :: xs => by
    have := linP_v k cs xs
    simp only [linP, pv, facM_v, this, List.map_cons, linV]
    show x.val g * (c * 1) + _ = _
    grind
theorem foldM_v (u : List A) : ∀ m : List A, mv g (m.foldr insM u) = mv g m * mv g u
  | [] => by simp [mv]
  | a :: m => by simp only [List.foldr_cons, insM_v, foldM_v u m, mv]; grind
theorem mulM_v (t : Mo) : ∀ e, pv g (mulM t e) = tv g t * pv g e
  | [] => by simp [mulM, pv]
  | u :: r => by
    simp only [mulM, pv, mulM_v t r]
    show t.1 * u.1 * mv g (t.2.foldr insM u.2) + _ = _
    rw [foldM_v]
    unfold tv
    grind
theorem remM_v {a : A} : ∀ {l r : List A}, remM a l = some r → mv g l = a.val g * mv g r
  | [], _, h => by cases h
  | b :: l, r, h => by
    unfold remM at h
    cases hb : A.beq a b
    · rw [hb, cond_false] at h
      split at h
      · rename_i r' hr
        cases h
        simp only [mv, remM_v hr]
        grind
      · cases h
    · rw [hb, cond_true] at h
      cases h
      rw [A.beq_eq hb]; rfl
theorem bil {u d B S : Int} (h1 : -B ≤ u) (h2 : u ≤ B) (h3 : -S ≤ d) (h4 : d ≤ S) : u * d ≤ B * S ∧ -(B * S) ≤ u * d := by
  have k1 := Int.mul_nonneg (show 0 ≤ B - u by omega) (show 0 ≤ S + d by omega)
  have k2 := Int.mul_nonneg (show 0 ≤ B + u by omega) (show 0 ≤ S - d by omega)
  have k3 := Int.mul_nonneg (show 0 ≤ B - u by omega) (show 0 ≤ S - d by omega)
  have k4 := Int.mul_nonneg (show 0 ≤ B + u by omega) (show 0 ≤ S + d by omega)
  constructor <;> grind
theorem absR1_ok {r : Rg} {z x : Int} (h : absR1 r = some x) (hw : within r z) : -x ≤ z ∧ z ≤ x := by
  unfold absR1 at h
  split at h
  · cases h
    have e := hw _ _ rfl
    rw [imax_eq]
    split <;> omega
  · cases h
theorem absM_ok (hg : Good U g st) : ∀ {l : List A} {b : Int}, absM st l = some b → -b ≤ mv g l ∧ mv g l ≤ b
  | [], b, h => by cases h; exact ⟨by show (-1 : Int) ≤ 1; omega, Int.le_refl _⟩
  | a :: l, b, h => by
    unfold absM at h
    split at h
    · rename_i x y h1 h2
      cases h
      have k1 := absR1_ok h1 (range_ok hg a)
      have k2 := absM_ok hg h2
      have := bil k1.1 k1.2 k2.1 k2.2
      exact ⟨this.2, this.1⟩
    · cases h
/-- What is said of a way to tell symbols. -/
def ExOk (g : Sg) (ex : Ex1) : Prop := ∀ (a : A) (s : Nat) (e : List Mo) (rd : Bool), ex a = some (s, e, rd) →
    (rd = false → ((2 ^ s : Nat) : Int) * a.val g = pv g e) ∧ (-((2 ^ s : Nat) : Int) ≤ 2 * (((2 ^ s : Nat) : Int) * a.val g - pv g e) ∧ 2 * (((2 ^ s : Nat) : Int) * a.val g - pv g e) ≤ ((2 ^ s : Nat) : Int))
theorem nameOf_val (hg : Good U g st) {p : Pr} {xa : List A} {y : A} (h : nameOf st p xa = some y) : y.val g = mean U p (xa.map (A.val g)) := by
  unfold nameOf at h
  split at h
  · rename_i n hn
    cases h
    exact hg.defs n _ _ (findIn_def hn)
  · cases h
theorem prod64_ok (hg : Good U g st) {a b : A} (h : prod64 (rangeOf st a) (rangeOf st b) = true) : wrapF .i64 (a.val g * b.val g) = a.val g * b.val g := by
  have h1 := range_ok hg a
  have h2 := range_ok hg b
  generalize rangeOf st a = r at *
  generalize rangeOf st b = q at *
  match r, q, h with
  | some (x, y), some (u, v), h =>
    have h : (ile (-9223372036854775808) (mulLo x y u v) && ile (mulHi x y u v) 9223372036854775807) = true := h
    rw [Bool.and_eq_true, ile_iff, ile_iff, decide_eq_true_eq, decide_eq_true_eq] at h
    have e1 := h1 x y rfl
    have e2 := h2 u v rfl
    have k := mul_ok4 e1.1 e1.2 e2.1 e2.2
    unfold wrapF
    rw [(inR_i64 _).2 ⟨by omega, by omega⟩]; rfl
theorem nn64_ok (hg : Good U g st) {a : A} (h : nn64 (rangeOf st a) = true) : 0 ≤ a.val g ∧ a.val g ≤ 9223372036854775807 := by
  have h1 := range_ok hg a
  generalize rangeOf st a = r at *
  match r, h with
  | some (x, y), h =>
    have h : (ile 0 x && ile y 9223372036854775807) = true := h
    rw [Bool.and_eq_true, ile_iff, ile_iff, decide_eq_true_eq, decide_eq_true_eq] at h
    have e1 := h1 x y rfl
    omega
theorem quoE_ok (hg : Good U g st) {a : A} {z : Int} {s : Nat} {e : List Mo} {rd : Bool} {q : Int} (h : quoE st a z = some (s, e, rd)) (hq : q = wrapF .i64 ((a.val g).tdiv z)) :
    (rd = false → ((2 ^ s : Nat) : Int) * q = pv g e) ∧ (-((2 ^ s : Nat) : Int) ≤ 2 * (((2 ^ s : Nat) : Int) * q - pv g e) ∧ 2 * (((2 ^ s : Nat) : Int) * q - pv g e) ≤ ((2 ^ s : Nat) : Int)) := by
  cases z with
  | negSucc z => cases h
  | ofNat z =>
    unfold quoE at h
    simp only at h
    cases hc : (Nat.beq (Nat.pow 2 (Nat.log2 z)) z && (Nat.blt 0 (Nat.log2 z) && nn64 (rangeOf st a)))
    · rw [hc] at h; cases h
    · rw [hc, cond_true] at h
      rw [Bool.and_eq_true, Bool.and_eq_true, nbeq, nblt, decide_eq_true_eq, decide_eq_true_eq] at hc
      obtain ⟨c1, c2, c3⟩ := hc
      have c1 : 2 ^ Nat.log2 z = z := c1
      have ha := nn64_ok hg c3
      have hz : 2 ≤ z := by
        rw [← c1]
        have := Nat.pow_le_pow_right (show 0 < 2 by omega) (show 1 ≤ Nat.log2 z from c2)
        omega
      have eo : Int.ofNat z = (z : Int) := rfl
      rw [eo] at hq
      have hd : (a.val g).tdiv z = a.val g / z := Int.tdiv_eq_ediv_of_nonneg ha.1
      have hm : (a.val g).tmod z = a.val g % z := Int.tmod_eq_emod_of_nonneg ha.1
      have h1 := Int.emod_add_mul_ediv (a.val g) (z : Int)
      have h2 := Int.emod_nonneg (a.val g) (show (z : Int) ≠ 0 by omega)
      have h3 := Int.emod_lt_of_pos (a.val g) (show (0 : Int) < z by omega)
      have h4 : 0 ≤ a.val g / z := Int.ediv_nonneg ha.1 (by omega)
      have h5 : a.val g / z ≤ a.val g := Int.ediv_le_self _ ha.1
      have hw : wrapF .i64 (a.val g / z) = a.val g / z := by unfold wrapF; rw [(inR_i64 _).2 ⟨by omega, by omega⟩]; rfl
      rw [hd, hw] at hq
      subst hq
      have ez : ∀ t, (2 ^ Nat.log2 z : Nat) = z → t = ((2 ^ Nat.log2 z : Nat) : Int) → t = z := fun t e1 e2 => by rw [e2, e1]
      split at h
      · rename_i t ht
        cases h
        have e1 := nameOf_val hg ht
        have e1 : t.val g = (a.val g).tmod z := e1
        rw [hm] at e1
        have e2 : pv g [facM a (1, []), facM t (-1, [])] = a.val g - t.val g := by
          show tv g (facM a (1, [])) + (tv g (facM t (-1, [])) + 0) = _
          rw [facM_v, facM_v]
          show a.val g * (1 * 1) + (t.val g * (-1 * 1) + 0) = _
          omega
        rw [e2, e1, c1]
        generalize a.val g / z = u at *
        generalize a.val g % z = v at *
        generalize (z : Int) * u = w at *
        exact ⟨fun _ => by omega, by omega, by omega⟩
      · cases h
        have e2 : pv g [facM a (1, []), (-(Int.ofNat (Nat.pow 2 (Nat.log2 z - 1))), [])] = a.val g - ((2 ^ (Nat.log2 z - 1) : Nat) : Int) := by
          show tv g (facM a (1, [])) + (-((2 ^ (Nat.log2 z - 1) : Nat) : Int) * 1 + 0) = _
          rw [facM_v]
          show a.val g * (1 * 1) + (-((2 ^ (Nat.log2 z - 1) : Nat) : Int) * 1 + 0) = _
          omega
        have e3 : 2 * 2 ^ (Nat.log2 z - 1) = z := by
          rw [← Nat.pow_succ', show (Nat.log2 z - 1).succ = Nat.log2 z by omega, c1]
        rw [e2, c1]
        generalize 2 ^ (Nat.log2 z - 1) = y at *
        generalize a.val g / z = u at *
        generalize a.val g % z = v at *
        generalize (z : Int) * u = w at *
        exact ⟨fun h => (by cases h), by omega, by omega⟩
theorem expP0_ok (hg : Good U g st) {a : A} {s : Nat} {e : List Mo} {rd : Bool} (h : expP0 st a = some (s, e, rd)) :
    (rd = false → ((2 ^ s : Nat) : Int) * a.val g = pv g e) ∧ (-((2 ^ s : Nat) : Int) ≤ 2 * (((2 ^ s : Nat) : Int) * a.val g - pv g e) ∧ 2 * (((2 ^ s : Nat) : Int) * a.val g - pv g e) ≤ ((2 ^ s : Nat) : Int)) := by
  cases a with
  | k z => simp [expP0] at h
  | x n =>
    unfold expP0 at h
    simp only at h
    have hgn : (A.x n).val g = g n := rfl
    rw [hgn]
    split at h
    · rename_i a b s' hd
      cases hc : (allM st [a, b] && (inM (prodR s' (rangeOf st a) (rangeOf st b)) && Nat.blt 0 s'))
      · rw [hc] at h; cases h
      · rw [hc, cond_true] at h
        cases h
        rw [Bool.and_eq_true, Bool.and_eq_true] at hc
        have ha := allM_ok hg hc.1
        simp only [List.map_cons, List.map_nil, List.cons.injEq, and_true] at ha
        have h4 := inM_ok hc.2.1 (prodR_ok (s := s) (range_ok hg a) (range_ok hg b))
        have e1 : g n = satv (rnd (satv (a.val g) * satv (b.val g)) s) := hg.defs n _ _ hd
        rw [ha.1, ha.2, satv_id h4.1 h4.2] at e1
        have e2 : pv g (dotP 1 [a, b]) = a.val g * b.val g := by rw [dotP_v]; simp [dP]
        rw [e1, e2]
        exact ⟨fun h => (by cases h), rnd_nr _ _⟩
    · rename_i s' l hd
      cases hc : (allM st l && (inM (rndR s' (dotR (l.map (rangeOf st)))) && Nat.blt 0 s'))
      · rw [hc] at h; cases h
      · rw [hc, cond_true] at h
        cases h
        rw [Bool.and_eq_true, Bool.and_eq_true] at hc
        have ha := allM_ok hg hc.1
        have h4 := inM_ok hc.2.1 (rndR_ok (s := s) (dotR_ok (rs_all hg l)))
        have e1 : g n = satv (rnd (dotL (l.map (A.val g))) s) := hg.defs n _ _ hd
        rw [satv_id h4.1 h4.2] at e1
        have e2 : pv g (dotP 1 l) = dotL (l.map (A.val g)) := by rw [dotP_v, dP_dot ha, Int.one_mul]
        rw [e1, e2]
        exact ⟨fun h => (by cases h), rnd_nr _ _⟩
    · rename_i s' m l hd
      cases hc : (allM st l && (inM (rndR s' (lessR (dotR ((l.take (2 * m)).map (rangeOf st))) (dotR ((l.drop (2 * m)).map (rangeOf st))))) && Nat.blt 0 s'))
      · rw [hc] at h; cases h
      · rw [hc, cond_true] at h
        cases h
        rw [Bool.and_eq_true, Bool.and_eq_true] at hc
        have ha := allM_ok hg hc.1
        have h4 := inM_ok hc.2.1 (rndR_ok (s := s) (lessR_ok (dotR_ok (rs_all hg (l.take (2 * m)))) (dotR_ok (rs_all hg (l.drop (2 * m))))))
        have e1 : g n = satv (rnd (dotL ((l.map (A.val g)).take (2 * m)) - dotL ((l.map (A.val g)).drop (2 * m))) s) := hg.defs n _ _ hd
        rw [← List.map_take, ← List.map_drop, satv_id h4.1 h4.2] at e1
        have t1 : ((l.take (2 * m)).map (A.val g)).map satv = (l.take (2 * m)).map (A.val g) := by rw [List.map_take, List.map_take, ha]
        have t2 : ((l.drop (2 * m)).map (A.val g)).map satv = (l.drop (2 * m)).map (A.val g) := by rw [List.map_drop, List.map_drop, ha]
        have e2 : pv g (dotP 1 (l.take (2 * m)) ++ dotP (-1) (l.drop (2 * m))) = dotL ((l.take (2 * m)).map (A.val g)) - dotL ((l.drop (2 * m)).map (A.val g)) := by
          rw [app_v, dotP_v, dotP_v, dP_dot t1, dP_dot t2]; omega
        rw [e1, e2]
        exact ⟨fun h => (by cases h), rnd_nr _ _⟩
    · rename_i k cs xs hd
      rw [nbeq, Bool.cond_decide] at h
      split at h
      · cases h
        have e1 : g n = linV k cs (xs.map (A.val g)) := hg.defs n _ _ hd
        rw [linP_v, ← e1]
        have e2 : ((2 ^ 0 : Nat) : Int) = 1 := rfl
        rw [e2, Int.one_mul]
        exact ⟨fun _ => rfl, by omega, by omega⟩
      · cases h
    · rename_i a b hd
      cases hc : prod64 (rangeOf st a) (rangeOf st b)
      · rw [hc] at h; cases h
      · rw [hc, cond_true] at h
        cases h
        have e1 : g n = wrapF .i64 (a.val g * b.val g) := hg.defs n _ _ hd
        rw [prod64_ok hg hc] at e1
        have e2 : pv g (dotP 1 [a, b]) = a.val g * b.val g := by rw [dotP_v]; simp [dP]
        rw [e1, e2]
        have e3 : ((2 ^ 0 : Nat) : Int) = 1 := rfl
        rw [e3, Int.one_mul]
        exact ⟨fun _ => rfl, by omega, by omega⟩
    · rename_i a z hd
      exact quoE_ok hg h (hg.defs n _ _ hd)
    · cases h
theorem takeX_v {x : A} : ∀ {l m : List A} {n : Nat}, takeX x l = (n, m) → mv g l = x.val g ^ n * mv g m
  | [], m, n, h => by cases h; simp
  | a :: l, m, n, h => by
    unfold takeX at h
    split at h
    rename_i n' m' hl
    have ih := takeX_v hl
    cases hb : A.beq x a
    · rw [hb] at h; cases h
      show a.val g * mv g l = _
      rw [ih]
      show _ = x.val g ^ n * (a.val g * mv g m')
      grind
    · rw [hb] at h; cases h
      obtain rfl := A.beq_eq hb
      show x.val g * mv g l = _
      rw [ih, Int.pow_succ]
      grind
theorem mulP_v : ∀ p q, pv g (mulP p q) = pv g p * pv g q
  | [], q => by simp [mulP, pv]
  | t :: p, q => by simp only [mulP, addP_v, mulM_v, mulP_v p q, pv]; grind
theorem powP_v (e : List Mo) : ∀ k, pv g (powP e k) = pv g e ^ k
  | 0 => by simp [powP, pv, tv, mv]
  | 1 => by show pv g e = _; rw [Int.pow_succ, Int.pow_zero, Int.one_mul]
  | k + 2 => by
    unfold powP
    rw [mulP_v, powP_v e (k + 1), Int.pow_succ _ (k + 1), Int.mul_comm]
theorem pow_abs {v M : Int} (h1 : -M ≤ v) (h2 : v ≤ M) : ∀ k : Nat, -(M ^ k) ≤ v ^ k ∧ v ^ k ≤ M ^ k
  | 0 => by simp
  | k + 1 => by
    obtain ⟨k1, k2⟩ := pow_abs h1 h2 k
    have b := bil h1 h2 k1 k2
    rw [Int.pow_succ, Int.pow_succ, Int.mul_comm _ v, Int.mul_comm _ M]
    exact ⟨b.2, b.1⟩
/-- Powers of what lies near. -/
theorem pow_near {u v S y : Int} (hS : 0 ≤ S) (hy : 0 ≤ y) (u1 : -(S * y) ≤ u) (u2 : u ≤ S * y) (v1 : -(S * y) ≤ v) (v2 : v ≤ S * y) (d1 : -S ≤ 2 * (u - v)) (d2 : 2 * (u - v) ≤ S) :
    ∀ k : Nat, -(S ^ k * powB y k) ≤ 2 * (u ^ k - v ^ k) ∧ 2 * (u ^ k - v ^ k) ≤ S ^ k * powB y k
  | 0 => by simp [powB]
  | k + 1 => by
    obtain ⟨k1, k2⟩ := pow_near hS hy u1 u2 v1 v2 d1 d2 k
    obtain ⟨p1, p2⟩ := pow_abs v1 v2 k
    have b1 := bil u1 u2 k1 k2
    have b2 := bil d1 d2 p1 p2
    have e1 : 2 * (u ^ (k + 1) - v ^ (k + 1)) = u * (2 * (u ^ k - v ^ k)) + 2 * (u - v) * v ^ k := by rw [Int.pow_succ, Int.pow_succ]; grind
    have e2 : S ^ (k + 1) * powB y (k + 1) = S * y * (S ^ k * powB y k) + S * (S * y) ^ k := by
      rw [Int.mul_pow, Int.pow_succ]
      show _ * (y * powB y k + y ^ k) = _
      grind
    rw [e1, e2]
    omega
theorem absR1_in {r : Rg} {y x : Int} (h : absR1 r = some y) (hx : within r x) : -y ≤ x ∧ x ≤ y := by
  unfold absR1 at h
  split at h
  · cases h
    have e := hx _ _ rfl
    rw [imax_eq]
    split <;> omega
  · cases h
theorem subP_ok (hg : Good U g st) {x : A} {s K : Nat} {e : List Mo} {rd : Bool} (x1 : rd = false → ((2 ^ s : Nat) : Int) * x.val g = pv g e) (x2 : -((2 ^ s : Nat) : Int) ≤ 2 * (((2 ^ s : Nat) : Int) * x.val g - pv g e)) (x3 : 2 * (((2 ^ s : Nat) : Int) * x.val g - pv g e) ≤ ((2 ^ s : Nat) : Int)) :
    ∀ {p q : List Mo} {er : Int}, subP st x s K e rd p = some (q, er) →
    2 * (((2 ^ (s * K) : Nat) : Int) * pv g p) ≤ 2 * pv g q + er * ((2 ^ (s * K) : Nat) : Int) ∧ 2 * pv g q - er * ((2 ^ (s * K) : Nat) : Int) ≤ 2 * (((2 ^ (s * K) : Nat) : Int) * pv g p)
  | [], q, er, h => by cases h; simp [pv]
  | t :: p, q, er, h => by
    unfold subP at h
    split at h
    · cases h
    · rename_i q' er' hp
      obtain ⟨ih1, ih2⟩ := subP_ok hg x1 x2 x3 hp
      split at h
      · cases h
        rw [insP_v]
        simp only [pv]
        have e1 : tv g (t.1 * ((2 ^ (s * K) : Nat) : Int), t.2) = ((2 ^ (s * K) : Nat) : Int) * tv g t := by unfold tv; grind
        rw [e1]
        generalize ((2 ^ (s * K) : Nat) : Int) = S at *
        constructor <;> grind
      · rename_i k m hm
        cases hk : Nat.ble (k + 1) K
        · rw [hk] at h; cases h
        rw [hk, cond_true] at h
        rw [nble, decide_eq_true_eq] at hk
        have e1 : tv g t = t.1 * (x.val g ^ (k + 1) * mv g m) := by unfold tv; rw [takeX_v hm]
        have e2 : tv g (t.1 * ((2 ^ (s * (K - (k + 1))) : Nat) : Int), m) = t.1 * ((2 ^ (s * (K - (k + 1))) : Nat) : Int) * mv g m := rfl
        have e3 : ((2 ^ (s * K) : Nat) : Int) = ((2 ^ (s * (K - (k + 1))) : Nat) : Int) * ((2 ^ s : Nat) : Int) ^ (k + 1) := by
          rw [← Int.natCast_pow, ← Int.natCast_mul, ← Nat.pow_mul, ← Nat.pow_add, ← Nat.mul_add, Nat.sub_add_cancel hk]
        have hP : (0 : Int) ≤ ((2 ^ (s * (K - (k + 1))) : Nat) : Int) := Int.natCast_nonneg _
        have hS : (0 : Int) ≤ ((2 ^ s : Nat) : Int) := Int.natCast_nonneg _
        cases rd
        · rw [cond_false] at h
          cases h
          have x1 := x1 rfl
          rw [addP_v, mulM_v, e2, powP_v, ← x1, Int.mul_pow]
          simp only [pv, e1]
          rw [e3] at ih1 ih2 ⊢
          generalize ((2 ^ s : Nat) : Int) ^ (k + 1) = S at *
          generalize ((2 ^ (s * (K - (k + 1))) : Nat) : Int) = P at *
          generalize x.val g ^ (k + 1) = X at *
          constructor <;> grind
        · rw [cond_true] at h
          split at h
          · rename_i b y hb hy
            cases h
            rw [addP_v, mulM_v, e2, powP_v]
            simp only [pv, e1]
            have hm := absM_ok hg hb
            have hx := absR1_in hy (range_ok hg x)
            have hc : -(imax t.1 (-t.1)) ≤ t.1 ∧ t.1 ≤ imax t.1 (-t.1) := by rw [imax_eq]; split <;> omega
            rw [e3] at ih1 ih2 ⊢
            generalize hSS : ((2 ^ s : Nat) : Int) = S at *
            have y0 : 0 ≤ y := by omega
            have u := bil (u := S) (d := x.val g) (B := S) (S := y) (by omega) (by omega) hx.1 hx.2
            have hSy : S * (y + 1) = S * y + S := by grind
            have kn := pow_near (u := S * x.val g) (v := pv g e) hS (show 0 ≤ y + 1 by omega) (by omega) (by omega) (by omega) (by omega) x2 x3 (k + 1)
            rw [Int.mul_pow] at kn
            generalize imax t.1 (-t.1) = C at *
            have k1 := bil hc.1 hc.2 hm.1 hm.2
            have k2 := bil k1.2 k1.1 kn.1 kn.2
            have k3 := Int.mul_le_mul_of_nonneg_left k2.1 hP
            have k4 := Int.mul_le_mul_of_nonneg_left k2.2 hP
            generalize ((2 ^ (s * (K - (k + 1))) : Nat) : Int) = P at *
            generalize powB (y + 1) (k + 1) = B at *
            generalize S ^ (k + 1) = T at *
            generalize mv g m = M at *
            generalize x.val g ^ (k + 1) = X at *
            generalize pv g e ^ (k + 1) = E at *
            constructor <;> grind
          · cases h
theorem sqR1_ok {r : Rg} {z : Int} (h : within r z) : within (sqR1 r) (z * z) := by
  unfold sqR1
  split
  · rename_i a b
    have e := h _ _ rfl
    have hs := Nm.sqnn z
    have k1 : z * z ≤ imax (a * a) (b * b) := by
      rw [imax_eq]
      rcases Int.le_total 0 z with h0 | h0
      · have : z * z ≤ b * b := Int.mul_le_mul e.2 e.2 h0 (by omega)
        split <;> omega
      · have : z * z ≤ a * a := by
          have := Int.mul_le_mul (show -z ≤ -a by omega) (show -z ≤ -a by omega) (by omega) (by omega)
          rwa [Int.neg_mul_neg, Int.neg_mul_neg] at this
        split <;> omega
    refine within_some ?_ k1
    rw [ile_iff, ile_iff, Bool.cond_decide, Bool.cond_decide]
    split
    · exact Int.mul_le_mul e.1 e.1 (by omega) (by omega)
    · split
      · have := Int.mul_le_mul (show -b ≤ -z by omega) (show -b ≤ -z by omega) (by omega) (by omega)
        rwa [Int.neg_mul_neg, Int.neg_mul_neg] at this
      · exact hs
  · exact within_none _
theorem mulR1_ok {r q : Rg} {x y : Int} (h1 : within r x) (h2 : within q y) : within (mulR1 r q) (x * y) := by
  unfold mulR1
  split
  · rename_i a b c d
    have e1 := h1 _ _ rfl
    have e2 := h2 _ _ rfl
    have k := mul_ok4 e1.1 e1.2 e2.1 e2.2
    exact within_some k.1 k.2
  · exact within_none _
theorem rangeM_ok (hg : Good U g st) : ∀ l : List A, within (rangeM st l) (mv g l)
  | [] => within_some (Int.le_refl _) (Int.le_refl _)
  | [a] => by
    have e : mv g [a] = a.val g := by simp [mv]
    rw [e]
    exact range_ok hg a
  | a :: b :: l => by
    unfold rangeM
    cases hb : A.beq a b
    · rw [cond_false]
      exact mulR1_ok (range_ok hg a) (rangeM_ok hg (b :: l))
    · rw [cond_true]
      have e : mv g (a :: b :: l) = (a.val g * a.val g) * mv g l := by
        rw [A.beq_eq hb]; simp only [mv]; grind
      rw [e]
      exact mulR1_ok (sqR1_ok (range_ok hg a)) (rangeM_ok hg l)
theorem mulAdd_ok' {c : Int} {r q : Rg} {x y : Int} (h1 : within r x) (h2 : within q y) : within (mulAdd c r q) (c * x + y) := by
  unfold mulAdd
  split
  · rename_i a b p q
    have e1 := h1 _ _ rfl
    have e2 := h2 _ _ rfl
    rw [ile_iff, Bool.cond_decide]
    split
    · rename_i hc
      have k1 := Int.mul_le_mul_of_nonneg_left e1.1 hc
      have k2 := Int.mul_le_mul_of_nonneg_left e1.2 hc
      exact within_some (by omega) (by omega)
    · rename_i hc
      have k1 := Int.mul_le_mul_of_nonpos_left (show c ≤ 0 by omega) e1.1
      have k2 := Int.mul_le_mul_of_nonpos_left (show c ≤ 0 by omega) e1.2
      exact within_some (by omega) (by omega)
  · exact within_none _
theorem rangeP_ok (hg : Good U g st) : ∀ p : List Mo, within (rangeP st p) (pv g p)
  | [] => within_some (Int.le_refl _) (Int.le_refl _)
  | t :: p => mulAdd_ok' (rangeM_ok hg t.2) (rangeP_ok hg p)
theorem conjZ_ok (hg : Good U g st) {xs : List A} (hz : ∀ a ∈ xs, a.val g = 0) : ∀ (f : Nat) (a : A), conjZ st xs f a = true → ieq (a.val g) 1 = true
  | 0, .k z, h => h
  | _ + 1, .k z, h => h
  | 0, .x n, h => by cases h
  | f + 1, .x n, h => by
    unfold conjZ at h
    split at h
    · rename_i p z hn
      rw [Bool.and_eq_true, ieq_iff, decide_eq_true_eq] at h
      obtain ⟨rfl, h2⟩ := h
      have e : g n = b2i (cmpF .eql (p.val g) 0) := hg.defs n _ _ hn
      show ieq (g n) 1 = true
      rw [e, ieq_b2i]
      show ieq (p.val g) 0 = true
      rw [hz p (memA_ok h2)]; rfl
    · rename_i c x z hn
      rw [Bool.and_eq_true] at h
      have e : g n = bif ieq (c.val g) 1 then x.val g else z := hg.defs n _ _ hn
      show ieq (g n) 1 = true
      rw [e, conjZ_ok hg hz f c h.1, cond_true]
      exact conjZ_ok hg hz f x h.2
    · cases h
theorem sqL_pos : ∀ {l : List Int}, (¬ ∀ a ∈ l, a = 0) → 1 ≤ sqL l
  | [], h => absurd (fun a ha => by cases ha) h
  | a :: l, h => by
    have h1 := (sqL_nn l).1
    have h2 := Nm.sqnn (satv a)
    simp only [sqL]
    by_cases ha : a = 0
    · have := sqL_pos (l := l) (fun hl => h (fun b hb => by
        rcases List.mem_cons.1 hb with rfl | hb
        · exact ha
        · exact hl b hb))
      omega
    · have : satv a ≠ 0 := by unfold satv; (repeat' split) <;> omega
      have : 0 < satv a * satv a := by
        rcases Int.lt_or_gt_of_ne this with h3 | h3
        · exact Int.mul_pos_of_neg_of_neg h3 h3
        · exact Int.mul_pos h3 h3
      omega
theorem posN_ok (hg : Good U g st) {n : A} {xs : List A} (hn : n.val g = U 32 (xs.map (A.val g))) (h : posN st n xs = true) : 1 ≤ n.val g := by
  unfold posN at h
  rw [Bool.or_eq_true] at h
  rcases h with h | h
  · have k := range_ok hg n
    generalize rangeOf st n = r at *
    match r, h with
    | some (a, b), h =>
      have h : ile 1 a = true := h
      rw [ile_iff, decide_eq_true_eq] at h
      have := k a b rfl
      omega
  · unfold notZ at h
    obtain ⟨c, hc, hb⟩ := List.any_eq_true.1 h
    rw [Bool.and_eq_true, Bool.not_eq_true'] at hb
    have hne : ¬ ∀ a ∈ xs.map (A.val g), a = 0 := fun hz => by
      have := conjZ_ok hg (fun a ha => hz _ (List.mem_map_of_mem ha)) 10 (.x c.1) hb.2
      have k := hg.cs c hc
      have this : ieq (g c.1) 1 = true := this
      rw [this, hb.1] at k; cases k
    have hp := sqL_pos hne
    have hs := sp_of (xs.map (A.val g))
    rw [hn, U32]
    have h1 : 1 ≤ Nl (xs.map (A.val g)) := by
      have := hs.nn
      have := hs.hi
      rcases Int.lt_or_le (Nl (xs.map (A.val g))) 1 with h5 | h5
      · have h0 : Nl (xs.map (A.val g)) = 0 := by omega
        rw [h0] at this
        omega
      · exact h5
    unfold satv
    (repeat' split) <;> omega
theorem len_ge {l : List Int} {x : Int} (hx : x ∈ l) : -satv (Nl l) ≤ satv x ∧ satv x ≤ satv (Nl l) := by
  have hr := sp_of l
  have hm := Nm.abs_le_of hr.nn (Int.le_trans (sqL_mem hx) hr.hi)
  have b1 := satv_lo x
  have b2 := satv_hi x
  have hn := hr.nn
  generalize Nl l = R at *
  generalize satv x = y at *
  unfold satv
  (repeat' split) <;> omega
theorem near_dv {N : Int} (h1 : 1 ≤ N) (h2 : N ≤ 1152921504606846976) : ∀ l : List Int, (∀ a ∈ l, -N ≤ satv a ∧ satv a ≤ N) →
    Nm.Near N 1073741824 (l.map fun a => U 4 [a, N, 30]) (l.map satv) ∧ ∀ q ∈ l.map (fun a => U 4 [a, N, 30]), -1073741824 ≤ q ∧ q ≤ 1073741824
  | [], _ => ⟨trivial, fun q hq => by cases hq⟩
  | a :: l, h => by
    obtain ⟨k1, k2⟩ := near_dv h1 h2 l (fun b hb => h b (List.mem_cons_of_mem _ hb))
    have ha := h a (List.mem_cons_self ..)
    have e : U 4 [a, N, 30] = divv (satv a * 1073741824) (satv N) := rfl
    have eN : satv N = N := (satv_in (by omega) h2).1
    have hd := divZ_near (v := satv a * 1073741824) (d := N) h1
    have hc := Nm.cap_of h1 (by omega) ha hd
    have e2 : U 4 [a, N, 30] = divZ (satv a * 1073741824) N := by
      rw [e, eN]
      unfold divv
      rw [if_neg (by omega), (satv_in (by omega) (by omega)).1]
    simp only [List.map_cons]
    rw [e2]
    exact ⟨⟨hd, k1⟩, fun q hq => by
      rcases List.mem_cons.1 hq with rfl | hq
      · exact hc
      · exact k2 q hq⟩
theorem quotsOf_val (hg : Good U g st) {n : A} : ∀ {qs al : List A}, quotsOf st n qs = some al → qs.map (A.val g) = (al.map (A.val g)).map fun a => U 4 [a, n.val g, 30]
  | [], al, h => by cases h; rfl
  | q :: r, al, h => by
    unfold quotsOf at h
    split at h
    · rename_i a m z l h1 h2
      cases hb : (A.beq m n && ieq z 30)
      · rw [hb] at h; cases h
      · rw [hb] at h
        cases h
        rw [Bool.and_eq_true, ieq_iff, decide_eq_true_eq] at hb
        have e := uArgs_ok hg h1
        have e2 := A.beq_eq hb.1
        simp only [List.map_cons, quotsOf_val hg h2]
        congr 1
        rw [e, ← e2]
        simp only [List.map_cons, List.map_nil, val_k, hb.2]
    · cases h
theorem namesO_val (hg : Good U g st) {m : A} : ∀ {qs ys : List A}, namesO st m qs = some ys → ys.map (A.val g) = (qs.map (A.val g)).map fun a => U 4 [a, m.val g, 30]
  | [], ys, h => by cases h; rfl
  | q :: r, ys, h => by
    unfold namesO at h
    split at h
    · rename_i y l h1 h2
      cases h
      simp only [List.map_cons, namesO_val hg h2]
      congr 1
      rw [nameOf_val hg h1]; rfl
    · cases h
/-- The squares of numbers that have been divided by their length twice. -/
theorem unitO_ok (hg : Good U g st) {x : A} {ys : List A} (h : unitO st x = some ys) :
    1152921504606846976 - 4294967296 ≤ Nm.sq (x.val g :: ys.map (A.val g)) ∧ Nm.sq (x.val g :: ys.map (A.val g)) ≤ 1152921504606846976 + 4294967296 := by
  unfold unitO at h
  split at h
  · rename_i q m z hx
    split at h
    · rename_i q0 qs hm
      cases hc : (A.beq q q0 && (ieq z 30 && Nat.ble qs.length 3))
      · rw [hc] at h; cases h
      · rw [hc, cond_true] at h
        rw [Bool.and_eq_true, Bool.and_eq_true, ieq_iff, decide_eq_true_eq, nble, decide_eq_true_eq] at hc
        obtain ⟨c1, rfl, c3⟩ := hc
        have c1 := A.beq_eq c1
        subst c1
        split at h
        · rename_i a0 n k0 hq0
          split at h
          · rename_i al bl hq hn
            cases hb : (A.beqL al bl && posN st n al)
            · rw [hb] at h; cases h
            · rw [hb, cond_true] at h
              rw [Bool.and_eq_true] at hb
              have hab := beqL_eq hb.1
              subst hab
              have en := uArgs_ok hg hn
              have em := uArgs_ok hg hm
              have ex := uArgs_ok hg hx
              have eq := quotsOf_val hg hq
              have ey := namesO_val hg h
              have n1 := posN_ok hg en hb.2
              have n2 : n.val g ≤ 1152921504606846976 := by rw [en, U32]; exact satv_hi _
              have hal : ∀ a ∈ al.map (A.val g), -(n.val g) ≤ satv a ∧ satv a ≤ n.val g := fun a ha => by rw [en, U32]; exact len_ge ha
              obtain ⟨k1, k2⟩ := near_dv n1 n2 _ hal
              rw [← eq] at k1 k2
              have hS := sp_of (al.map (A.val g))
              rw [sqL_sq] at hS
              have hlow : n.val g * n.val g - n.val g < Nm.sq ((al.map (A.val g)).map satv) := by
                have e1 : n.val g = satv (Nl (al.map (A.val g))) := by rw [en, U32]
                have h0 := hS.nn
                have hle : n.val g ≤ Nl (al.map (A.val g)) := by
                  rw [e1]; unfold satv; (repeat' split) <;> omega
                have hlt : Nl (al.map (A.val g)) * Nl (al.map (A.val g)) - Nl (al.map (A.val g)) < Nm.sq ((al.map (A.val g)).map satv) := by
                  rcases hS.lo with h5 | h5
                  · omega
                  · exact h5
                generalize Nl (al.map (A.val g)) = R at *
                generalize n.val g = N at *
                have := Int.mul_le_mul hle (show N - 1 ≤ R - 1 by omega) (by omega) (by omega)
                rw [Int.mul_sub, Int.mul_sub, Int.mul_one, Int.mul_one] at this
                omega
              have hsat : ((q :: qs).map (A.val g)).map satv = (q :: qs).map (A.val g) := by
                generalize (q :: qs).map (A.val g) = L at *
                clear k1 eq em ey
                induction L with
                | nil => rfl
                | cons b L ih =>
                  have := k2 b (List.mem_cons_self ..)
                  rw [List.map_cons, (satv_in (by omega) (by omega)).1, ih (fun c hc => k2 c (List.mem_cons_of_mem _ hc))]
              have hT := sp_of ((q :: qs).map (A.val g))
              rw [sqL_sq, hsat] at hT
              have hlen : ((q :: qs).map (A.val g)).length ≤ 4 := by simp; omega
              have mlow := Nm.unit_low n1 k1 hlen hlow hT
              have mhi : Nl ((q :: qs).map (A.val g)) ≤ 1152921504606846976 := by
                have h6 := hyp_le ((q :: qs).map (A.val g))
                have h7 : absL ((q :: qs).map (A.val g)) ≤ 4 * 1073741824 := by
                  have : ∀ L : List Int, (∀ b ∈ L, -1073741824 ≤ b ∧ b ≤ 1073741824) → absL L ≤ (L.length : Int) * 1073741824 := fun L => by
                    induction L with
                    | nil => intro _; simp [absL]
                    | cons b L ih =>
                      intro hL
                      have h8 := ih (fun c hc => hL c (List.mem_cons_of_mem _ hc))
                      have h9 := hL b (List.mem_cons_self ..)
                      simp only [absL, List.length_cons]
                      rw [(satv_in (a := b) (by omega) (by omega)).1, Int.natCast_add, Int.add_mul]
                      omega
                  have h8 := this _ k2
                  have h9 : (((q :: qs).map (A.val g)).length : Int) ≤ 4 := by omega
                  have := Int.mul_le_mul_of_nonneg_right h9 (show (0 : Int) ≤ 1073741824 by omega)
                  omega
                have : Nl ((q :: qs).map (A.val g)) ≤ absL ((q :: qs).map (A.val g)) := h6
                omega
              have e5 : m.val g = Nl ((q :: qs).map (A.val g)) := by
                rw [em, U32, (satv_in (by omega) mhi).1]
              rw [← e5] at hT mlow mhi
              have hql : ∀ a ∈ (q :: qs).map (A.val g), -(m.val g) ≤ satv a ∧ satv a ≤ m.val g := fun a ha => by rw [em, U32]; exact len_ge ha
              obtain ⟨r1, _⟩ := near_dv (by omega) mhi _ hql
              rw [hsat] at r1
              have er : ((q :: qs).map (A.val g)).map (fun a => U 4 [a, m.val g, 30]) = x.val g :: ys.map (A.val g) := by
                rw [ey, ex]
                simp only [List.map_cons, List.map_nil, val_k]
              rw [er] at r1
              exact Nm.unit_near n1 k1 hlen hlow hT r1
          · cases h
        · cases h
    · cases h
  · cases h
theorem sphF_ok (hg : Good U g st) : ∀ {l ys r : List A}, sphF st l = some (ys, r) → ∃ x : Int, mv g l = x * x * mv g r ∧ 1152921504606846976 - 4294967296 ≤ Nm.sq (x :: ys.map (A.val g)) ∧ Nm.sq (x :: ys.map (A.val g)) ≤ 1152921504606846976 + 4294967296
  | [], _, _, h => by cases h
  | [_], _, _, h => by cases h
  | a :: b :: l, ys, r, h => by
    unfold sphF at h
    split at h
    · rename_i zs hu
      cases h
      cases hb : A.beq a b
      · rw [hb] at hu; cases hu
      · rw [hb, cond_true] at hu
        have e := A.beq_eq hb
        subst e
        obtain ⟨k1, k2⟩ := unitO_ok hg hu
        exact ⟨a.val g, by simp only [mv]; grind, k1, k2⟩
    · split at h
      · rename_i zs r' hs
        cases h
        obtain ⟨x, k1, k2⟩ := sphF_ok hg hs
        refine ⟨x, ?_, k2⟩
        have : mv g (a :: b :: l) = a.val g * mv g (b :: l) := rfl
        rw [this, k1]
        show _ = x * x * (a.val g * mv g r')
        grind
      · cases h
theorem sqO_v (c : Int) (rest : List A) : ∀ ys : List A, pv g (sqO c rest ys) = -(c * Nm.sq (ys.map (A.val g)) * mv g rest)
  | [] => by simp [sqO, pv, Nm.sq]
  | y :: r => by
    simp only [sqO, pv, sqO_v c rest r, List.map_cons, Nm.sq, tv, insM_v]
    grind
theorem sphP_ok (hg : Good U g st) : ∀ (f : Nat) (p : List Mo), 2 * pv g p ≤ 2 * pv g (sphP st f p).1 + (sphP st f p).2 ∧ 2 * pv g (sphP st f p).1 - (sphP st f p).2 ≤ 2 * pv g p
  | 0, p => by unfold sphP; simp
  | f + 1, [] => by unfold sphP; simp
  | f + 1, t :: p => by
    unfold sphP
    split
    · rename_i ys rest hs
      split
      · rename_i b hb
        obtain ⟨ih1, ih2⟩ := sphP_ok hg f ((t.1 * 1152921504606846976, rest) :: (sqO t.1 rest ys ++ p))
        obtain ⟨x, k1, k2, k3⟩ := sphF_ok hg hs
        have k4 := absM_ok hg hb
        generalize sphP st f ((t.1 * 1152921504606846976, rest) :: (sqO t.1 rest ys ++ p)) = w at *
        obtain ⟨q, e⟩ := w
        simp only at ih1 ih2 ⊢
        have e1 : pv g ((t.1 * 1152921504606846976, rest) :: (sqO t.1 rest ys ++ p)) = t.1 * (1152921504606846976 - Nm.sq (ys.map (A.val g))) * mv g rest + pv g p := by
          simp only [pv, tv, app_v, sqO_v]
          grind
        have e2 : pv g (t :: p) = t.1 * (x * x) * mv g rest + pv g p := by
          simp only [pv, tv, k1]
          grind
        rw [e1] at ih1 ih2
        rw [e2]
        have e3 : Nm.sq (x :: ys.map (A.val g)) = Nm.sq (ys.map (A.val g)) + x * x := rfl
        rw [e3] at k2 k3
        generalize Nm.sq (ys.map (A.val g)) = S at *
        generalize x * x = X at *
        generalize mv g rest = R at *
        generalize pv g p = P at *
        generalize pv g q = Q at *
        generalize t.1 = c at *
        have b1 := bil (u := X + S - 1152921504606846976) (d := R) (B := 4294967296) (S := b) (by omega) (by omega) k4.1 k4.2
        have b2 := bil (u := c) (d := (X + S - 1152921504606846976) * R) (B := imax c (-c)) (S := 4294967296 * b) (by rw [imax_eq]; split <;> omega) (by rw [imax_eq]; split <;> omega) b1.2 b1.1
        have e4 : c * X * R = c * (1152921504606846976 - S) * R + c * ((X + S - 1152921504606846976) * R) := by grind
        rw [e4]
        generalize c * ((X + S - 1152921504606846976) * R) = Z at *
        generalize c * (1152921504606846976 - S) * R = Y at *
        generalize imax c (-c) * (4294967296 * b) = V at *
        omega
      · obtain ⟨ih1, ih2⟩ := sphP_ok hg f p
        generalize sphP st f p = w at *
        obtain ⟨q, e⟩ := w
        simp only at ih1 ih2 ⊢
        rw [insP_v]
        simp only [pv]
        omega
    · obtain ⟨ih1, ih2⟩ := sphP_ok hg f p
      generalize sphP st f p = w at *
      obtain ⟨q, e⟩ := w
      simp only at ih1 ih2 ⊢
      rw [insP_v]
      simp only [pv]
      omega
theorem evenM_nn : ∀ {l : List A}, evenM l = true → 0 ≤ mv g l
  | [], _ => by show (0 : Int) ≤ 1; omega
  | [_], h => by simp [evenM] at h
  | a :: b :: l, h => by
    unfold evenM at h
    rw [Bool.and_eq_true] at h
    obtain rfl := A.beq_eq h.1
    have k := evenM_nn h.2
    show 0 ≤ a.val g * (a.val g * mv g l)
    rw [← Int.mul_assoc]
    exact Int.mul_nonneg (Nm.sqnn _) k
theorem splitE_v : ∀ l : List A, mv g l = mv g (splitE l).1 * mv g (splitE l).2 ∧ 0 ≤ mv g (splitE l).1
  | [] => by simp [splitE, mv]
  | [a] => by simp [splitE, mv]
  | a :: b :: l => by
    unfold splitE
    cases hb : A.beq a b
    · obtain ⟨k1, k2⟩ := splitE_v (b :: l)
      generalize splitE (b :: l) = z at *
      obtain ⟨ev, od⟩ := z
      simp only [cond_false] at k1 k2 ⊢
      refine ⟨?_, k2⟩
      show a.val g * mv g (b :: l) = mv g ev * (a.val g * mv g od)
      rw [k1]; grind
    · obtain rfl := A.beq_eq hb
      obtain ⟨k1, k2⟩ := splitE_v l
      generalize splitE l = z at *
      obtain ⟨ev, od⟩ := z
      simp only [cond_true] at k1 k2 ⊢
      refine ⟨?_, ?_⟩
      · show a.val g * (a.val g * mv g l) = a.val g * (a.val g * mv g ev) * mv g od
        rw [k1]; grind
      · show 0 ≤ a.val g * (a.val g * mv g ev)
        rw [← Int.mul_assoc]
        exact Int.mul_nonneg (Nm.sqnn _) k2
theorem sphX_ok (hg : Good U g st) : ∀ {l : List A} {x : A} {ys : List A}, sphX st l = some (x, ys) →
    1152921504606846976 - 4294967296 ≤ Nm.sq (x.val g :: ys.map (A.val g)) ∧ Nm.sq (x.val g :: ys.map (A.val g)) ≤ 1152921504606846976 + 4294967296
  | [], _, _, h => by simp [sphX] at h
  | [_], _, _, h => by simp [sphX] at h
  | a :: b :: l, x, ys, h => by
    unfold sphX at h
    split at h
    · rename_i zs hz
      cases h
      cases hb : A.beq a b
      · rw [hb] at hz; cases hz
      · rw [hb, cond_true] at hz
        exact unitO_ok hg hz
    · exact sphX_ok hg h
theorem firstS_ok (hg : Good U g st) : ∀ {p : List Mo} {x : A} {ys : List A}, firstS st p = some (x, ys) →
    1152921504606846976 - 4294967296 ≤ Nm.sq (x.val g :: ys.map (A.val g)) ∧ Nm.sq (x.val g :: ys.map (A.val g)) ≤ 1152921504606846976 + 4294967296
  | [], _, _, h => by simp [firstS] at h
  | t :: p, x, ys, h => by
    unfold firstS at h
    split at h
    · rename_i r hr
      cases h
      exact sphX_ok hg hr
    · exact firstS_ok hg h
theorem sphA_ok (hg : Good U g st) {x : A} {ys : List A} (h1 : 1152921504606846976 - 4294967296 ≤ Nm.sq (x.val g :: ys.map (A.val g))) (h2 : Nm.sq (x.val g :: ys.map (A.val g)) ≤ 1152921504606846976 + 4294967296) :
    ∀ p : List Mo, 2 * pv g p ≤ 2 * pv g (sphA st x ys p).1 + ((sphA st x ys p).2.1 + 8589934592 * pv g (sphA st x ys p).2.2) ∧ 2 * pv g (sphA st x ys p).1 - ((sphA st x ys p).2.1 + 8589934592 * pv g (sphA st x ys p).2.2) ≤ 2 * pv g p
  | [] => by simp [sphA, pv]
  | t :: p => by
    have ih := sphA_ok hg h1 h2 p
    unfold sphA
    generalize sphA st x ys p = w at *
    obtain ⟨q, e, E⟩ := w
    simp only at ih ⊢
    have keep : 2 * pv g (t :: p) ≤ 2 * pv g (insP t q) + (e + 8589934592 * pv g E) ∧ 2 * pv g (insP t q) - (e + 8589934592 * pv g E) ≤ 2 * pv g (t :: p) := by
      rw [insP_v]; simp only [pv]; omega
    split
    · exact keep
    · rename_i m hm
      split
      · exact keep
      · rename_i rest hr
        have e0 : pv g (addP ((t.1 * 1152921504606846976, rest) :: sqO t.1 rest ys) q) = t.1 * (1152921504606846976 - Nm.sq (ys.map (A.val g))) * mv g rest + pv g q := by
          rw [addP_v]
          simp only [pv, tv, sqO_v]
          grind
        have e1 : pv g (t :: p) = t.1 * (x.val g * x.val g) * mv g rest + pv g p := by
          simp only [pv, tv, remM_v hm, remM_v hr]
          grind
        have e3 : Nm.sq (x.val g :: ys.map (A.val g)) = Nm.sq (ys.map (A.val g)) + x.val g * x.val g := rfl
        rw [e3] at h1 h2
        obtain ⟨k5, k6⟩ := splitE_v (g := g) rest
        generalize splitE rest = z at *
        obtain ⟨ev, od⟩ := z
        simp only at k5 k6 ⊢
        split
        · rename_i b hb
          have k4 := absM_ok hg hb
          have k7 := bil (u := mv g ev) (d := mv g od) (B := mv g ev) (S := b) (by omega) (Int.le_refl _) k4.1 k4.2
          rw [← k5] at k7
          simp only
          rw [e0, e1, insP_v]
          simp only [tv]
          have e6 : imax t.1 (-t.1) * b * mv g ev = imax t.1 (-t.1) * (mv g ev * b) := by grind
          rw [e6]
          generalize mv g ev * b = B at *
          generalize Nm.sq (ys.map (A.val g)) = S at *
          generalize x.val g * x.val g = X at *
          generalize mv g rest = R at *
          generalize pv g p = P at *
          generalize pv g q = Q at *
          generalize t.1 = c at *
          have b1 := bil (u := X + S - 1152921504606846976) (d := R) (B := 4294967296) (S := B) (by omega) (by omega) (by omega) (by omega)
          have b2 := bil (u := c) (d := (X + S - 1152921504606846976) * R) (B := imax c (-c)) (S := 4294967296 * B) (by rw [imax_eq]; split <;> omega) (by rw [imax_eq]; split <;> omega) b1.2 b1.1
          have e4 : c * X * R = c * (1152921504606846976 - S) * R + c * ((X + S - 1152921504606846976) * R) := by grind
          have e5 : imax c (-c) * (4294967296 * B) = 4294967296 * (imax c (-c) * B) := by grind
          rw [e5] at b2
          rw [e4]
          generalize c * ((X + S - 1152921504606846976) * R) = Z at *
          generalize c * (1152921504606846976 - S) * R = Y at *
          generalize imax c (-c) * B = V at *
          omega
        · exact keep
theorem sphL_ok (hg : Good U g st) : ∀ (f : Nat) (p : List Mo), 2 * pv g p ≤ 2 * pv g (sphL st f p).1 + ((sphL st f p).2.1 + 8589934592 * pv g (sphL st f p).2.2) ∧ 2 * pv g (sphL st f p).1 - ((sphL st f p).2.1 + 8589934592 * pv g (sphL st f p).2.2) ≤ 2 * pv g p
  | 0, p => by unfold sphL; simp [pv]
  | f + 1, p => by
    unfold sphL
    split
    · simp [pv]
    · rename_i x ys hx
      obtain ⟨h1, h2⟩ := firstS_ok hg hx
      have k := sphA_ok hg h1 h2 p
      generalize sphA st x ys p = w at *
      obtain ⟨q, e, E⟩ := w
      simp only at k ⊢
      have ih := sphL_ok hg f q
      generalize sphL st f q = w at *
      obtain ⟨q', e', E'⟩ := w
      simp only at ih ⊢
      rw [addP_v]
      omega
theorem errS_ok (hg : Good U g st) {E : List Mo} {e : Int} (h : errS st E = some e) : 8589934592 * pv g E ≤ e := by
  unfold errS at h
  have hs := sphP_ok hg 3000 E
  generalize sphP st 3000 E = w at *
  obtain ⟨q, e'⟩ := w
  simp only at h hs
  split at h
  · rename_i lo hi hr
    cases h
    have k := (rangeP_ok hg q) _ _ hr
    omega
  · cases h
/-- A sum of powers. -/
def evL1 (x : Int) : List Int → Int
  | [] => 0
  | a :: l => a + x * evL1 x l
theorem pow1_v {x : A} : ∀ {l : List A} {n : Nat}, pow1 x l = some n → mv g l = x.val g ^ n
  | [], n, h => by simp only [pow1, Option.some.injEq] at h; subst h; simp [mv]
  | a :: l, n, h => by
    unfold pow1 at h
    cases hb : A.beq a x
    · rw [hb] at h; cases h
    · rw [hb, cond_true] at h
      split at h
      · rename_i m hm
        cases h
        rw [← A.beq_eq hb] at hm ⊢
        show a.val g * mv g l = _
        rw [pow1_v hm, Int.pow_succ, Int.mul_comm]
      · cases h
theorem addC_v (x c : Int) : ∀ (n : Nat) (l : List Int), evL1 x (addC c n l) = c * x ^ n + evL1 x l
  | 0, [] => by simp [addC, evL1]
  | 0, d :: l => by simp only [addC, evL1, Int.pow_zero]; omega
  | n + 1, [] => by
    simp only [addC, evL1, addC_v x c n []]
    rw [Int.pow_succ]
    grind
  | n + 1, d :: l => by
    simp only [addC, evL1, addC_v x c n l]
    rw [Int.pow_succ]
    grind
theorem coefU_v {x : A} : ∀ {p : List Mo} {l : List Int}, coefU x p = some l → pv g p = evL1 (x.val g) l
  | [], l, h => by simp only [coefU, Option.some.injEq] at h; subst h; rfl
  | t :: p, l, h => by
    unfold coefU at h
    split at h
    · rename_i n m hn hm
      cases h
      rw [addC_v, ← coefU_v hm]
      simp only [pv, tv, pow1_v hn]
    · cases h
theorem addL_v (x : Int) : ∀ l m : List Int, evL1 x (addL l m) = evL1 x l + evL1 x m
  | [], m => by simp [addL, evL1]
  | a :: l, [] => by simp [addL, evL1]
  | a :: l, b :: m => by simp only [addL, evL1, addL_v x l m]; grind
theorem mulL_v (x c : Int) : ∀ l : List Int, evL1 x (mulL c l) = c * evL1 x l
  | [] => by simp [mulL, evL1]
  | a :: l => by simp only [mulL, evL1, mulL_v x c l]; grind
theorem shiftL_v (x c : Int) : ∀ l : List Int, evL1 (x - c) (shiftL c l) = evL1 x l
  | [] => rfl
  | a :: l => by
    simp only [shiftL, addC_v, addL_v, mulL_v, evL1, shiftL_v x c l]
    grind
theorem boundL_ok {x d : Int} (h1 : -d ≤ x) (h2 : x ≤ d) : ∀ l : List Int, 0 ≤ boundL d l ∧ -(boundL d l) ≤ evL1 x l ∧ evL1 x l ≤ boundL d l
  | [] => by simp [boundL, evL1]
  | a :: l => by
    obtain ⟨k0, k1, k2⟩ := boundL_ok h1 h2 l
    have b := bil (u := x) (d := evL1 x l) (B := d) (S := boundL d l) h1 h2 k1 k2
    have hd : 0 ≤ d := by omega
    have hm := Int.mul_nonneg hd k0
    simp only [boundL, evL1]
    have ha : a ≤ imax a (-a) ∧ -a ≤ imax a (-a) := by rw [imax_eq]; split <;> omega
    omega
theorem midR_ok {lo hi x : Int} {l : List Int} (h1 : lo ≤ x) (h2 : x ≤ hi) : within (midR lo hi l) (evL1 x l) := by
  unfold midR
  rw [Int.fdiv_eq_ediv_of_nonneg _ (by omega)]
  generalize hc : (lo + hi) / 2 = c
  have hs := shiftL_v x c l
  split
  · rename_i he
    rw [he] at hs
    rw [← hs]
    exact within_some (Int.le_refl _) (Int.le_refl _)
  · rename_i a m he
    rw [he] at hs
    rw [← hs]
    obtain ⟨k0, k1, k2⟩ := boundL_ok (x := x - c) (d := hi - c) (by omega) (by omega) m
    have b := bil (u := x - c) (d := evL1 (x - c) m) (B := hi - c) (S := boundL (hi - c) m) (by omega) (by omega) k1 k2
    simp only [evL1]
    exact within_some (by omega) (by omega)
theorem meetB_ok {r q : Rg} {x : Int} (h1 : within r x) (h2 : within q x) : within (meetB r q) x := by
  unfold meetB
  split
  · have e1 := h1 _ _ rfl
    have e2 := h2 _ _ rfl
    rw [imax_eq, imin_eq]
    exact within_some (by split <;> omega) (by split <;> omega)
  · exact h1
  · exact h2
theorem rangeU_ok (hg : Good U g st) (p : List Mo) : within (rangeU st p) (pv g p) := by
  unfold rangeU
  split
  · exact rangeP_ok hg p
  · rename_i x _
    split
    · rename_i l lo hi hl hr
      refine meetB_ok (rangeP_ok hg p) ?_
      have e := range_ok hg x _ _ hr
      cases ile lo hi
      · exact within_none _
      · rw [coefU_v hl]
        exact midR_ok e.1 e.2
    · exact rangeP_ok hg p
theorem polyR_ok (hg : Good U g st) {ex : Ex1} (hex : ExOk g ex) (D : Int) : ∀ (f e : Nat) (p : List Mo) (err : Int), 2 * (((2 ^ e : Nat) : Int) * D) ≤ 2 * pv g p + err → 2 * pv g p - err ≤ 2 * (((2 ^ e : Nat) : Int) * D) → within (polyR st ex f e p err) D
  | 0, _, _, _, _, _ => within_none _
  | f + 1, e, p, err, hD, hD2 => by
    unfold polyR
    cases longP 200 p
    case true => exact within_none _
    rw [cond_false]
    have fin : ∀ (p : List Mo) (err : Int), 2 * (((2 ^ e : Nat) : Int) * D) ≤ 2 * pv g p + err → 2 * pv g p - err ≤ 2 * (((2 ^ e : Nat) : Int) * D) → ∀ rr, within rr (pv g p) → within (match rr with
        | some (lo, hi) => some ((2 * lo - err).fdiv (2 * ((2 ^ e : Nat) : Int)), (2 * hi + err).fdiv (2 * ((2 ^ e : Nat) : Int)))
        | none => none) D := fun p err hD hD2 rr hrr => by
      split
      · rename_i lo hi
        have k := hrr _ _ rfl
        have hp : (0 : Int) < ((2 ^ e : Nat) : Int) := by have : 0 < 2 ^ e := Nat.pow_pos (by omega); omega
        generalize ((2 ^ e : Nat) : Int) = T at *
        rw [Int.fdiv_eq_ediv_of_nonneg _ (by omega), Int.fdiv_eq_ediv_of_nonneg _ (by omega)]
        have e1 : 2 * (T * D) = D * (2 * T) := by grind
        refine within_some ?_ ?_
        · have : (2 * lo - err) / (2 * T) < D + 1 := by
            rw [Int.ediv_lt_iff_lt_mul (by omega)]
            grind
          omega
        · rw [Int.le_ediv_iff_mul_le (by omega)]
          omega
      · exact within_none _
    split
    · cases hasS st p
      · rw [cond_false]; exact fin p err hD hD2 _ (rangeU_ok hg p)
      · rw [cond_true]
        have hs := sphL_ok hg 8 p
        generalize sphL st 8 p = w at *
        obtain ⟨q, er, E⟩ := w
        simp only at hs ⊢
        split
        · rename_i e2 lo hi he2 hr
          have h2 := errS_ok hg he2
          have := fin q (err + (er + e2)) (by omega) (by omega) _ (rangeP_ok hg q)
          rw [hr] at this
          exact this
        · exact within_none _
    · rename_i n _
      split
      · rename_i s q rd he
        unfold polyN
        simp only
        generalize mostX (.x n) p = K
        split
        · rename_i p' er hs
          obtain ⟨x1, x2, x3⟩ := hex _ _ _ _ he
          obtain ⟨k1, k2⟩ := subP_ok hg x1 x2 x3 hs
          have hS : (0 : Int) ≤ ((2 ^ (s * K) : Nat) : Int) := Int.natCast_nonneg _
          have e1 : ((2 ^ (e + s * K) : Nat) : Int) = ((2 ^ e : Nat) : Int) * ((2 ^ (s * K) : Nat) : Int) := by rw [Nat.pow_add, Int.natCast_mul]
          have k3 := Int.mul_le_mul_of_nonneg_right hD hS
          have k4 := Int.mul_le_mul_of_nonneg_right hD2 hS
          refine polyR_ok hg hex D f (e + s * K) p' _ ?_ ?_
          · rw [e1]
            generalize ((2 ^ (s * K) : Nat) : Int) = S at *
            generalize ((2 ^ e : Nat) : Int) = T at *
            grind
          · rw [e1]
            generalize ((2 ^ (s * K) : Nat) : Int) = S at *
            generalize ((2 ^ e : Nat) : Int) = T at *
            grind
        · exact within_none _
      · exact within_none _
theorem poly_dot (hg : Good U g st) (p : List Mo) : within (polyR st (expP0 st) 200 0 p 0) (pv g p) :=
  polyR_ok hg (fun _ _ _ _ h => expP0_ok hg h) _ 200 0 p 0 (by show 2 * (1 * pv g p) ≤ _; omega) (by show _ ≤ 2 * (1 * pv g p); omega)
theorem expP_ok (hg : Good U g st) : ExOk g (expP st) := fun a s e rd h => by
  unfold expP at h
  split at h
  · rename_i r hr
    cases h
    exact expP0_ok hg hr
  · split at h
    · rename_i n _
      have hgn : (A.x n).val g = g n := rfl
      rw [hgn]
      split at h
      · rename_i s' l hd
        cases hc : (allM st l && (inM (rndR s' (polyR st (expP0 st) 200 0 (dotP 1 l) 0)) && Nat.blt 0 s'))
        · rw [hc] at h; cases h
        · rw [hc, cond_true] at h
          cases h
          rw [Bool.and_eq_true, Bool.and_eq_true] at hc
          have ha := allM_ok hg hc.1
          have e2 : pv g (dotP 1 l) = dotL (l.map (A.val g)) := by rw [dotP_v, dP_dot ha, Int.one_mul]
          have h4 := inM_ok hc.2.1 (rndR_ok (s := s) (poly_dot hg (dotP 1 l)))
          have e1 : g n = satv (rnd (dotL (l.map (A.val g))) s) := hg.defs n _ _ hd
          rw [e2] at h4
          rw [satv_id h4.1 h4.2] at e1
          rw [e1, e2]
          exact ⟨fun h => (by cases h), rnd_nr _ _⟩
      · rename_i s' m l hd
        cases hc : (allM st l && (inM (rndR s' (polyR st (expP0 st) 200 0 (dotP 1 (l.take (2 * m)) ++ dotP (-1) (l.drop (2 * m))) 0)) && Nat.blt 0 s'))
        · rw [hc] at h; cases h
        · rw [hc, cond_true] at h
          cases h
          rw [Bool.and_eq_true, Bool.and_eq_true] at hc
          have ha := allM_ok hg hc.1
          have t1 : ((l.take (2 * m)).map (A.val g)).map satv = (l.take (2 * m)).map (A.val g) := by rw [List.map_take, List.map_take, ha]
          have t2 : ((l.drop (2 * m)).map (A.val g)).map satv = (l.drop (2 * m)).map (A.val g) := by rw [List.map_drop, List.map_drop, ha]
          have e2 : pv g (dotP 1 (l.take (2 * m)) ++ dotP (-1) (l.drop (2 * m))) = dotL ((l.take (2 * m)).map (A.val g)) - dotL ((l.drop (2 * m)).map (A.val g)) := by
            rw [app_v, dotP_v, dotP_v, dP_dot t1, dP_dot t2]; omega
          have h4 := inM_ok hc.2.1 (rndR_ok (s := s) (poly_dot hg (dotP 1 (l.take (2 * m)) ++ dotP (-1) (l.drop (2 * m)))))
          have e1 : g n = satv (rnd (dotL ((l.map (A.val g)).take (2 * m)) - dotL ((l.map (A.val g)).drop (2 * m))) s) := hg.defs n _ _ hd
          rw [e2] at h4
          rw [← List.map_take, ← List.map_drop, satv_id h4.1 h4.2] at e1
          rw [e1, e2]
          exact ⟨fun h => (by cases h), rnd_nr _ _⟩
      · cases h
    · cases h
theorem polyL_v : ∀ l : List (Int × A), pv g (polyL l) = valF g l
  | [] => rfl
  | (c, a) :: l => by
    simp only [polyL, pv, facM_v, polyL_v l, valF]
    show a.val g * (c * 1) + _ = _
    grind
theorem timesL_ok {g : Sg} {c : Int} : ∀ {l m : List (Int × A)}, timesL c l m = true → valF g l = c * valF g m
  | [], [], _ => by simp [valF]
  | (d, a) :: l, (e, b) :: m, h => by
    unfold timesL at h
    rw [Bool.and_eq_true, Bool.and_eq_true, ieq_iff, decide_eq_true_eq] at h
    obtain ⟨h1, h2, h3⟩ := h
    have h2 := A.beq_eq h2
    have := timesL_ok (g := g) h3
    subst h1 h2
    simp only [valF, this]
    grind
  | [], _ :: _, h => by cases h
  | _ :: _, [], h => by cases h
theorem propC_ok {g : Sg} {st : St} (hg : Good U g st) {k : Int} {l : List (Int × A)} {b : Bool} : ∀ (ci : List (Bool × A × A × Bool)), (∀ c ∈ ci, ciOk g c) → propC st k l ci = some b → b = decide (0 < k + valF g l)
  | [], _, h => by cases h
  | (e, p, q, v) :: r, hc, h => by
    have ih := fun h' => propC_ok hg (k := k) (l := l) (b := b) r (fun c hc' => hc c (List.mem_cons_of_mem _ hc')) h'
    unfold propC at h
    cases e
    · rw [cond_false] at h
      have e1 := linF_val hg q
      have e2 := linF_val hg p
      simp only at h
      generalize linF st q = x at *
      generalize linF st p = y at *
      obtain ⟨i, m⟩ := x
      obtain ⟨j, n⟩ := y
      simp only at e1 e2 h
      have hv : (!ile (q.val g) (p.val g)) = v := hc _ (List.mem_cons_self ..)
      rw [ile_iff] at hv
      split at h
      · rename_i c a l' d a' m' hm
        cases hb : (!ieq d 0 && (ile 1 (c / d) && (ieq k ((c / d) * (i - j)) && timesL (c / d) ((c, a) :: l') (addF (-1) n m))))
        · rw [hb, cond_false] at h
          cases hb2 : (v && (!ieq d 0 && (ile (c / d) (-1) && (ieq k ((c / d) * (i - j)) && timesL (c / d) ((c, a) :: l') (addF (-1) n m)))))
          · rw [hb2] at h; exact ih h
          · rw [hb2, cond_true] at h
            cases h
            rw [Bool.and_eq_true, Bool.and_eq_true, Bool.and_eq_true, Bool.and_eq_true, ile_iff, ieq_iff (a := k), decide_eq_true_eq, decide_eq_true_eq] at hb2
            obtain ⟨rfl, _, h1, h2, h3⟩ := hb2
            have h3 := timesL_ok (g := g) h3
            rw [addF_val] at h3
            rw [h3, h2]
            generalize c / d = t at *
            have e3 : t * (i - j) + t * (-1 * valF g n + valF g m) = t * (q.val g - p.val g) := by rw [← Int.mul_add]; congr 1; omega
            rw [e3]
            rw [← decide_not, decide_eq_true_eq] at hv
            refine (decide_eq_false ?_).symm
            have := Int.mul_nonpos_of_nonpos_of_nonneg (a := t) (b := q.val g - p.val g) (by omega) (by omega)
            omega
        · rw [hb, cond_true] at h
          cases h
          rw [Bool.and_eq_true, Bool.and_eq_true, Bool.and_eq_true, ile_iff, ieq_iff (a := k), decide_eq_true_eq, decide_eq_true_eq] at hb
          obtain ⟨_, h1, h2, h3⟩ := hb
          have h3 := timesL_ok (g := g) h3
          rw [addF_val] at h3
          rw [← hv, h3, h2]
          generalize c / d = t at *
          have e3 : t * (i - j) + t * (-1 * valF g n + valF g m) = t * (q.val g - p.val g) := by rw [← Int.mul_add]; congr 1; omega
          rw [e3, ← decide_not]
          refine decide_eq_decide.2 ⟨fun h => Int.mul_pos (by omega) (by omega), fun h => ?_⟩
          rcases Int.lt_or_le (p.val g) (q.val g) with h5 | h5
          · omega
          · have := Int.mul_nonpos_of_nonneg_of_nonpos (a := t) (b := q.val g - p.val g) (by omega) (by omega)
            omega
      · exact ih h
    · exact ih h
end
section
variable {g : Sg} {st : St}
theorem small_sat {l : List Int} (h : Nm.sq l ≤ 1152921504606846976 + 4294967296) : l.map satv = l := by
  have : ∀ m : List Int, (∀ x ∈ m, -1073741826 ≤ x ∧ x ≤ 1073741826) → m.map satv = m := fun m => by
    induction m with
    | nil => intro _; rfl
    | cons a m ih =>
      intro hm
      have h1 := hm a (List.mem_cons_self ..)
      rw [List.map_cons, (satv_in (by omega) (by omega)).1, ih (fun x hx => hm x (List.mem_cons_of_mem _ hx))]
  exact this l fun x hx => Nm.mem_small h hx
/-- A length of numbers whose squares sum to about 2^60. -/
theorem len_unit {l : List Int} (h1 : 1152921504606846976 - 4294967296 ≤ Nm.sq l) (h2 : Nm.sq l ≤ 1152921504606846976 + 4294967296) : Nm.Sp (U 32 l) (Nm.sq l) ∧ 1073741822 ≤ U 32 l ∧ U 32 l ≤ 1073741826 := by
  have hs := sp_of l
  rw [sqL_sq, small_sat h2] at hs
  have k := Nm.unit_len hs h1 h2
  have e : U 32 l = Nl l := by rw [U32, (satv_in (by omega) (by omega)).1]
  rw [e]
  exact ⟨hs, k⟩
theorem step_unit {l : List Int} {u : Int} (h1 : 1152921504606846976 - 4294967296 ≤ Nm.sq l) (h2 : Nm.sq l ≤ 1152921504606846976 + 4294967296) (hu : u ∈ l) : -2 ≤ U 4 [u, U 32 l, 30] - u ∧ U 4 [u, U 32 l, 30] - u ≤ 2 := by
  obtain ⟨_, k1, k2⟩ := len_unit h1 h2
  have hl := len_ge hu
  rw [← U32] at hl
  obtain ⟨n1, _⟩ := near_dv (N := U 32 l) (by omega) (by omega) [u] (fun a ha => by
    rcases List.mem_cons.1 ha with rfl | ha
    · exact hl
    · cases ha)
  have hsm := Nm.mem_small h2 hu
  have es : satv u = u := (satv_in (by omega) (by omega)).1
  have n1 : (-(U 32 l) ≤ 2 * (U 32 l * U 4 [u, U 32 l, 30] - satv u * 1073741824) ∧ 2 * (U 32 l * U 4 [u, U 32 l, 30] - satv u * 1073741824) ≤ U 32 l) ∧ True := n1
  rw [es] at n1
  exact Nm.unit_step k1 k2 hsm n1.1
theorem againO_ok (hg : Good U g st) {w u : A} (h : againO st w u = true) : -4 ≤ w.val g - u.val g ∧ w.val g - u.val g ≤ 4 := by
  unfold againO at h
  split at h
  · rename_i q n2 z hw
    split at h
    · rename_i u' n1 z' hq
      split at h
      · rename_i qs u0 ur hn2 hn1
        rw [Bool.and_eq_true, Bool.and_eq_true, Bool.and_eq_true, Bool.and_eq_true, Bool.and_eq_true, Bool.and_eq_true, Bool.and_eq_true, ieq_iff, ieq_iff, nble, decide_eq_true_eq, decide_eq_true_eq, decide_eq_true_eq] at h
        obtain ⟨⟨rfl, rfl, c3, c4, c5, c6⟩, c7, c8⟩ := h
        have c3 := A.beq_eq c3
        subst c3
        split at c7
        · rename_i us hqs
          have c7 := beqL_eq c7
          subst c7
          split at c8
          · rename_i ys hu
            have c8 := beqL_eq c8
            subst c8
            obtain ⟨s1, s2⟩ := unitO_ok hg hu
            have e1 := uArgs_ok hg hn1
            have e2 := uArgs_ok hg hn2
            have ew := uArgs_ok hg hw
            have eq := uArgs_ok hg hq
            have eqs := quotsOf_val hg hqs
            have s1 : 1152921504606846976 - 4294967296 ≤ Nm.sq ((u0 :: ys).map (A.val g)) := s1
            have s2 : Nm.sq ((u0 :: ys).map (A.val g)) ≤ 1152921504606846976 + 4294967296 := s2
            obtain ⟨p1, p2, p3⟩ := len_unit s1 s2
            have mu : u'.val g ∈ (u0 :: ys).map (A.val g) := List.mem_map_of_mem (memA_ok c5)
            have mq : q.val g ∈ qs.map (A.val g) := List.mem_map_of_mem (memA_ok c4)
            generalize (u0 :: ys).map (A.val g) = L at *
            rw [e1] at eqs
            obtain ⟨m1, _⟩ := near_dv (N := U 32 L) (by omega) (by omega) L (fun a ha => by rw [U32]; exact len_ge ha)
            rw [← eqs, small_sat s2] at m1
            obtain ⟨t1, t2⟩ := Nm.unit_more m1 (by rw [List.length_map]; exact c6) p1 s1 s2
            have a1 := step_unit s1 s2 mu
            have a2 := step_unit t1 t2 mq
            have b1 : q.val g = U 4 [u'.val g, U 32 L, 30] := by rw [eq]; simp only [List.map_cons, List.map_nil, val_k, e1]
            have b2 : w.val g = U 4 [q.val g, U 32 (qs.map (A.val g)), 30] := by rw [ew]; simp only [List.map_cons, List.map_nil, val_k, e2]
            rw [← b1] at a1
            rw [← b2] at a2
            omega
          · cases c8
        · cases c7
      · cases h
    · cases h
  · cases h
theorem againK_ok (hg : Good U g st) {k : Int} {l : List (Int × A)} (h : againK st k l = true) : k + valF g l ≤ 0 := by
  unfold againK at h
  split at h
  · rename_i c s d n
    simp only [Bool.or_eq_true, Bool.and_eq_true, ile_iff, ieq_iff, decide_eq_true_eq] at h
    obtain ⟨hk, hc, ho⟩ := h
    have hb : -4 ≤ s.val g - n.val g ∧ s.val g - n.val g ≤ 4 := by
      rcases ho with ho | ho
      · exact againO_ok hg ho
      · have := againO_ok hg ho; omega
    simp only [valF]
    rcases hc with ⟨rfl, rfl⟩ | ⟨rfl, rfl⟩ <;> omega
  · cases h
end
theorem zerosC_ok {g : Sg} {st : St} (hd : DefsOk U g st) : ∀ (f : Nat) (a : A) (l : List A), zerosC st f a = some l → ieq (a.val g) 1 = true → ∀ p ∈ l, p.val g = 0
  | _, .k _, l, h, _ => by simp [zerosC] at h
  | 0, .x _, l, h, _ => by simp [zerosC] at h
  | f + 1, .x n, l, h, ht => by
    unfold zerosC at h
    split at h
    · rename_i p z hn
      cases hz : ieq z 0
      · rw [hz] at h; cases h
      · rw [hz, cond_true] at h; cases h
        have e : g n = b2i (ieq (p.val g) z) := hd n _ _ hn
        have ht : ieq (g n) 1 = true := ht
        rw [e, ieq_b2i, ieq_iff, decide_eq_true_eq] at ht
        rw [ieq_iff, decide_eq_true_eq] at hz
        intro q hq
        rw [List.mem_singleton] at hq
        rw [hq, ht, hz]
    · rename_i c x z hn
      cases hz : ieq z 0
      · rw [hz] at h; cases h
      · rw [hz, cond_true] at h
        rw [ieq_iff, decide_eq_true_eq] at hz
        split at h
        · rename_i l1 l2 h1 h2
          cases h
          have e : g n = bif ieq (c.val g) 1 then x.val g else z := hd n _ _ hn
          have ht : ieq (g n) 1 = true := ht
          rw [e] at ht
          cases hc : ieq (c.val g) 1
          · rw [hc, cond_false, hz] at ht; cases ht
          · rw [hc, cond_true] at ht
            intro q hq
            rcases List.mem_append.1 hq with hq | hq
            · exact zerosC_ok hd f c l1 h1 hc q hq
            · exact zerosC_ok hd f x l2 h2 ht q hq
        · cases h
    · cases h
theorem sq_zero : ∀ {l : List Int}, (∀ x ∈ l, x = 0) → Nm.sq l = 0
  | [], _ => rfl
  | x :: l, h => by
    have h1 := h x (List.mem_cons_self ..)
    have h2 := sq_zero (l := l) fun y hy => h y (List.mem_cons_of_mem _ hy)
    subst h1
    simp only [Nm.sq] at h2 ⊢
    omega
theorem nilO_ok {g : Sg} {st : St} (hg : Good U g st) {n : Nat} (h : nilO st n = true) : ieq (g n) 1 = false := by
  cases hb : ieq (g n) 1
  · rfl
  · exfalso
    unfold nilO at h
    split at h
    · rename_i x l hz
      have hzero := zerosC_ok hg.defs 10 (.x n) _ hz hb
      split at h
      · rename_i ys hu
        obtain ⟨s1, _⟩ := unitO_ok hg hu
        rw [sq_zero] at s1
        · omega
        · intro y hy
          rcases List.mem_cons.1 hy with rfl | hy
          · exact hzero _ (List.mem_cons_self ..)
          · obtain ⟨a, ha, rfl⟩ := List.mem_map.1 hy
            exact hzero a (List.mem_cons_of_mem _ (memA_ok (List.all_eq_true.1 h a ha)))
      · cases h
    · cases h
instance : UOk U where
  nilO := fun g st n hg h => nilO_ok hg h
  lssO := fun g st p q r hg h => by
    have e1 := linF_val hg q
    have e2 := linF_val hg p
    unfold lssO at h
    simp only at h
    generalize linF st q = x at *
    generalize linF st p = y at *
    obtain ⟨k, l⟩ := x
    obtain ⟨j, m⟩ := y
    simp only at e1 e2 h
    cases ho : (overO st (k - j) (addF (-1) m l) || (hasM st (addF (-1) m l) && notAbove0 (polyR st (expP st) 200 0 ((k - j, []) :: polyL (addF (-1) m l)) 0)))
    · rw [ho, cond_false] at h
      cases ha : againK st (k - j) (addF (-1) m l)
      · rw [ha, cond_false] at h
        cases ht : twoL (addF (-1) m l)
        · rw [ht] at h; cases h
        · rw [ht, cond_true] at h
          have := propC_ok hg st.ci hg.ci h
          rw [addF_val] at this
          rw [this]
          exact decide_eq_decide.2 (by omega)
      · rw [ha] at h
        cases h
        have := againK_ok hg ha
        rw [addF_val] at this
        rw [decide_eq_false_iff_not]
        omega
    · rw [ho] at h
      cases h
      rw [Bool.or_eq_true, Bool.and_eq_true] at ho
      have key : k - j + valF g (addF (-1) m l) ≤ 0 := by
        rcases ho with ho | ⟨_, ho⟩
        · exact overO_ok hg ho
        · have hp : pv g ((k - j, []) :: polyL (addF (-1) m l)) = k - j + valF g (addF (-1) m l) := by
            simp only [pv, polyL_v]
            show (k - j) * 1 + _ = _
            omega
          have := polyR_ok hg (expP_ok hg) (k - j + valF g (addF (-1) m l)) 200 0 ((k - j, []) :: polyL (addF (-1) m l)) 0 (by rw [hp]; show 2 * (1 * _) ≤ _; omega) (by rw [hp]; show _ ≤ 2 * (1 * _); omega)
          generalize polyR st (expP st) 200 0 ((k - j, []) :: polyL (addF (-1) m l)) 0 = r at *
          match r, ho with
          | some (a, b), ho =>
            have h2 := this a b rfl
            have ho : ile b 0 = true := ho
            rw [ile_iff, decide_eq_true_eq] at ho
            omega
      rw [addF_val] at key
      rw [decide_eq_false_iff_not]
      omega
end Go.Proofs.Ytdleeeahonfnkaa.SX

/- SxM -/
namespace Go.Proofs.Ytdleeeahonfnkaa.SX
open Go Go.RowKit
noncomputable section

/-! ### A flag -/
def orA (h x : A) (st : St) : A × St := match h with
  | .k z => bif ieq z 1 then (.k 1, st) else (x, st)
  | .x n => match x with
    | .k z => bif ieq z 1 then (.k 1, st) else (.x n, st)
    | .x m => app U .sel [.x n, .k 1, .x m] st
theorem orA_ok {g : Sg} {h x r : A} {st st' : St} (ho : orA h x st = (r, st')) (hg : Good U g st') :
    Good U g st ∧ Same st st' ∧ ieq (r.val g) 1 = (ieq (h.val g) 1 || ieq (x.val g) 1) := by
  unfold orA at ho
  split at ho
  · rename_i z
    cases hz : ieq z 1
    · rw [hz] at ho; cases ho
      exact ⟨hg, Same.refl _, by simp [A.val, hz]⟩
    · rw [hz] at ho; cases ho
      exact ⟨hg, Same.refl _, by simp [A.val, hz]; decide⟩
  · rename_i n
    split at ho
    · rename_i z
      cases hz : ieq z 1
      · rw [hz] at ho; cases ho
        exact ⟨hg, Same.refl _, by simp [A.val, hz]⟩
      · rw [hz] at ho; cases ho
        exact ⟨hg, Same.refl _, by simp [A.val, hz]; decide⟩
    · rename_i m
      obtain ⟨h1, h2, h3⟩ := app_ok ho hg
      refine ⟨h1, h2, ?_⟩
      rw [h3]
      simp only [List.map, mean, val_k]
      cases ieq (A.val g (.x n)) 1
      · simp
      · simp [ieq]
/-! ### Values that are clamped nowhere -/
def inMx (r : Rg) : Bool := match r with
  | some (a, b) => ile (-mx) a && ile b mx
  | none => false
theorem inMx_ok {r : Rg} {z : Int} (h : inMx r = true) (hw : within r z) : -1152921504606846976 ≤ z ∧ z ≤ 1152921504606846976 := by
  unfold inMx at h
  split at h
  · rename_i a b
    have e := hw a b rfl
    rw [Bool.and_eq_true, ile_iff, ile_iff, decide_eq_true_eq, decide_eq_true_eq] at h
    unfold mx at h
    omega
  · cases h
def rawAdd : Rg → Rg → Rg
  | some (a, b), some (c, d) => some (a + c, b + d)
  | _, _ => none
def rawSub : Rg → Rg → Rg
  | some (a, b), some (c, d) => some (a - d, b - c)
  | _, _ => none
theorem rawAdd_ok {r q : Rg} {x y : Int} (h1 : within r x) (h2 : within q y) : within (rawAdd r q) (x + y) := by
  unfold rawAdd
  split
  · have e1 := h1 _ _ rfl
    have e2 := h2 _ _ rfl
    exact within_some (by omega) (by omega)
  · exact within_none _
theorem rawSub_ok {r q : Rg} {x y : Int} (h1 : within r x) (h2 : within q y) : within (rawSub r q) (x - y) := by
  unfold rawSub
  split
  · have e1 := h1 _ _ rfl
    have e2 := h2 _ _ rfl
    exact within_some (by omega) (by omega)
  · exact within_none _
def inBnd (lo hi : Int) (r : Rg) : Bool := match r with
  | some (a, b) => ile lo a && ile b hi
  | none => false
theorem inBnd_ok {lo hi : Int} {r : Rg} {z : Int} (h : inBnd lo hi r = true) (hw : within r z) : lo ≤ z ∧ z ≤ hi := by
  unfold inBnd at h
  split at h
  · rename_i a b
    have e := hw a b rfl
    rw [Bool.and_eq_true, ile_iff, ile_iff, decide_eq_true_eq, decide_eq_true_eq] at h
    omega
  · cases h
def above (hi : Int) (r : Rg) : Bool := match r with
  | some (a, _) => ile hi a
  | none => false
def under (lo : Int) (r : Rg) : Bool := match r with
  | some (_, b) => ile b lo
  | none => false
theorem above_ok {hi : Int} {r : Rg} {z : Int} (h : above hi r = true) (hw : within r z) : hi ≤ z := by
  unfold above at h
  split at h
  · have e := hw _ _ rfl
    rw [ile_iff, decide_eq_true_eq] at h
    omega
  · cases h
theorem under_ok {lo : Int} {r : Rg} {z : Int} (h : under lo r = true) (hw : within r z) : z ≤ lo := by
  unfold under at h
  split at h
  · have e := hw _ _ rfl
    rw [ile_iff, decide_eq_true_eq] at h
    omega
  · cases h
inductive Sm where
  | same (a : A)
  | op (p : Pr) (xa : List A)
  | sum (sb : Bool) (a b : A)
  | neg (p : Pr) (xa : List A)
  | no
/-! ### Products, their signs apart, in one order -/
def aLt : A → A → Bool
  | .x i, .x j => Nat.blt i j
  | .x _, .k _ => true
  | _, _ => false
abbrev Tm := Bool × A × A
def mkT (s : Bool) (a b : A) : Tm := bif aLt b a then (s, b, a) else (s, a, b)
def ltT (t u : Tm) : Bool := bif aLt t.2.1 u.2.1 then true else bif aLt u.2.1 t.2.1 then false else aLt t.2.2 u.2.2
/-- Put in its place; one that is there with the other sign goes. -/
def insT (t : Tm) : List Tm → List Tm
  | [] => [t]
  | u :: r => bif A.beq t.2.1 u.2.1 && A.beq t.2.2 u.2.2 then (bif (t.1 == u.1) then t :: u :: r else r) else bif ltT t u then t :: u :: r else u :: insT t r
def negOf (st : St) : A → Bool × A
  | .k z => bif ile 0 z then (false, .k z) else (true, .k (-z))
  | .x n => match getD st n with
    | some (.lin k [c], [y]) => bif ieq k 0 && ieq c (-1) then (true, y) else (false, .x n)
    | _ => (false, .x n)
def isZ : A → Bool
  | .k z => ieq z 0
  | .x _ => false
def dotT (st : St) : List A → List Tm
  | a :: b :: l => (match negOf st a, negOf st b with
    | (s, x), (q, y) => bif isZ x || isZ y then dotT st l else insT (mkT (s != q) x y) (dotT st l))
  | _ => []
def flatT : List Tm → List A
  | [] => []
  | (_, a, b) :: r => a :: b :: flatT r
def flipT : List Tm → List Tm
  | [] => []
  | (s, a, b) :: r => (!s, a, b) :: flipT r
def posT : List Tm → List Tm
  | [] => []
  | (s, a, b) :: r => bif s then posT r else (s, a, b) :: posT r
def negT : List Tm → List Tm
  | [] => []
  | (s, a, b) :: r => bif s then (s, a, b) :: negT r else negT r
def mulSm (st : St) (a b : A) (s : Nat) : Sm := match b with
  | .k z => bif ieq z ((2 ^ s : Nat) : Int) && (ile z mx && inMx (rangeOf st a)) then .same a else .op (.u 2) [a, .k z, .k (.ofNat s)]
  | .x n => .op (.u 2) [a, .x n, .k (.ofNat s)]
def negSm : Sm → Sm
  | .same a => .sum true (.k 0) a
  | .op p xs => .neg p xs
  | _ => .no
def isNilT : List Tm → Bool
  | [] => true
  | _ => false
def posSm (st : St) (s : Nat) (l : List Tm) : Sm := match l with
  | [] => .same (.k 0)
  | [(false, a, b)] => mulSm st a b s
  | l => bif isNilT (negT l) then .op (.u 16) (.k (.ofNat s) :: flatT (posT l)) else .op (.u 18) (.k (.ofNat s) :: .k (.ofNat (posT l).length) :: (flatT (posT l) ++ flatT (negT l)))
def dotSm (st : St) (s : Nat) (xa : List A) : Sm := match dotT st xa with
  | (true, a, b) :: r => negSm (posSm st s (flipT ((true, a, b) :: r)))
  | l => posSm st s l
def both (st : St) (f : Rg → Rg → Rg) (a b : A) : Bool := inMx (rangeOf st a) && inMx (rangeOf st b) && inMx (f (rangeOf st a) (rangeOf st b))
/-- Of two that are clamped nowhere: the sum's, or the difference's bounds, as multiples. -/
def linRg (st : St) (sb : Bool) (a b : A) : Rg := match linF st a, linF st b with
  | (k, l), (j, m) => linR (bif sb then k - j else k + j) ((addF (bif sb then -1 else 1) m l).map Prod.fst) (((addF (bif sb then -1 else 1) m l).map Prod.snd).map (rangeOf st))
def bothL (st : St) (sb : Bool) (a b : A) : Bool := inMx (rangeOf st a) && inMx (rangeOf st b) && (inMx (bif sb then rawSub (rangeOf st a) (rangeOf st b) else rawAdd (rangeOf st a) (rangeOf st b)) || inMx (linRg st sb a b))
/-- A multiple that has a name. -/
def reL (st : St) (c : Int) (x : A) : Option A := bif ieq c 1 then some x else match findIn st (.lin 0 [c]) [x] (bucket st (hashP (.lin 0 [c]) [x])) with
  | some n => some (.x n)
  | none => none
/-- A common factor is struck. -/
def strike (st : St) (a b : A) (s : Nat) : Sm := match linF st a, linF st b with
  | (k, [(c, x)]), (j, [(d, y)]) => bif ieq k 0 && (ieq j 0 && (ieq (imax c (-c)) (imax d (-d)) && (ile 2 (imax c (-c)) && (inMx (rangeOf st a) && inMx (rangeOf st b))))) then (match reL st (c / imax c (-c)) x, reL st (d / imax c (-c)) y with
    | some x', some y' => .op (.u 4) [x', y', .k (.ofNat s)]
    | _, _ => .no) else .no
  | _, _ => .no
def simpV (st : St) : Nat → List A → Sm
  | 0, [a] => bif inMx (rangeOf st a) then .same a else .no
  | 10, [a, .k lo, .k hi] => bif inBnd lo hi (rangeOf st a) then .same a else bif ile lo hi && above hi (rangeOf st a) then .same (.k hi) else bif ile lo hi && under lo (rangeOf st a) then .same (.k lo) else bif ile lo hi && above lo (rangeOf st a) then .op .min [a, .k hi] else bif ile lo hi && under hi (rangeOf st a) then .op .max [a, .k lo] else .no
  | 2, [a, b, .k (.ofNat s)] => dotSm st s [a, b]
  | 16, .k (.ofNat s) :: l => dotSm st s l
  | 4, [a, b, .k (.ofNat s)] => bif isZ a then .same (.k 0) else strike st a b s
  | 8, [a, b] => bif bothL st true a b then .sum true a b else .no
  | 14, [a, b] => bif bothL st false a b then .sum false a b else .no
  | 32, l => bif l.any isZ then .op (.u 32) (l.filter fun a => !isZ a) else .no
  | _, _ => .no
def allMx (st : St) : List A → Bool
  | [] => true
  | a :: l => inMx (rangeOf st a) && allMx st l
def noHit (st : St) : Nat → List A → Bool
  | 1, [a] => inMx (rangeOf st a)
  | 11, [a, .k lo, .k hi] => inBnd lo hi (rangeOf st a)
  | 31, [a] => inBnd 0 mx (rangeOf st a)
  | 9, [a, b] => bothL st true a b
  | 15, [a, b] => bothL st false a b
  | 15, l => allMx st l && inMx (sumR (l.map (rangeOf st)))
  | 17, .k (.ofNat s) :: l => allMx st l && (inMx (rndR s (dotR (l.map (rangeOf st)))) || inMx (rndR s (polyR st (expP0 st) 200 0 (dotP 1 l) 0)))
  | 33, l => allMx st l && inMx (hypR (l.map (rangeOf st)))
  | 3, [a, b, .k (.ofNat s)] => both st (prodR s) a b
  | 5, [a, b, .k (.ofNat s)] => both st (ratioR s) a b
  | 7, [a, b, c] => inMx (rangeOf st a) && inMx (rangeOf st b) && (inMx (rangeOf st c) && inMx (ratioR 0 (prod0R (rangeOf st a) (rangeOf st b)) (rangeOf st c)))
  | _, _ => false
theorem both_ok {g : Sg} {st : St} (hg : Good U g st) {f : Rg → Rg → Rg} {a b : A} (h : both st f a b = true) :
    (-1152921504606846976 ≤ a.val g ∧ a.val g ≤ 1152921504606846976) ∧ (-1152921504606846976 ≤ b.val g ∧ b.val g ≤ 1152921504606846976) ∧ inMx (f (rangeOf st a) (rangeOf st b)) = true := by
  unfold both at h
  rw [Bool.and_eq_true, Bool.and_eq_true] at h
  exact ⟨inMx_ok h.1.1 (range_ok hg a), inMx_ok h.1.2 (range_ok hg b), h.2⟩
theorem wrap_small {z : Int} (h1 : -9223372036854775808 ≤ z) (h2 : z ≤ 9223372036854775807) : wrapF .i64 z = z := by
  unfold wrapF
  rw [(inR_i64 z).2 ⟨h1, h2⟩]; rfl
def SmT (g : Sg) (T : Int) : Sm → Prop
  | .same a => a.val g = T
  | .op p ys => mean U p (ys.map (A.val g)) = T
  | .sum sb a b => mean U (.iop (bif sb then .sub else .add) .i64) [a.val g, b.val g] = T
  | .neg p ys => -mean U p (ys.map (A.val g)) = T ∧ -1152921504606846976 ≤ T ∧ T ≤ 1152921504606846976
  | .no => True
abbrev SmOk (g : Sg) (n : Nat) (xa : List A) (m : Sm) : Prop := SmT g (U n (xa.map (A.val g))) m
def tV (g : Sg) (t : Tm) : Int := if t.1 = true then -(satv (t.2.1.val g) * satv (t.2.2.val g)) else satv (t.2.1.val g) * satv (t.2.2.val g)
def lV (g : Sg) : List Tm → Int
  | [] => 0
  | t :: r => tV g t + lV g r
theorem satv_neg (z : Int) : satv (-z) = -satv z := by unfold satv; (repeat' split) <;> omega
theorem sath_neg (z : Int) : sath (-z) = sath z := by
  unfold sath
  rw [Bool.eq_iff_iff, Bool.or_eq_true, Bool.or_eq_true, decide_eq_true_eq, decide_eq_true_eq, decide_eq_true_eq, decide_eq_true_eq]
  omega
theorem rnd_neg (v : Int) (s : Nat) : rnd (-v) s = -rnd v s := by
  unfold rnd withSign
  rw [Int.natAbs_neg]
  by_cases h0 : v = 0
  · subst h0; simp [rq_zero]
  · by_cases h : v < 0
    · have : ¬ (-v < 0) := by omega
      rw [decide_eq_true h, decide_eq_false this]
      simp
    · have : -v < 0 := by omega
      rw [decide_eq_false h, decide_eq_true this]
      simp
theorem rnd_one (a : Int) (s : Nat) : rnd (a * ((2 ^ s : Nat) : Int)) s = a := by
  have hp : 0 < 2 ^ s := Nat.pow_pos (by omega)
  have hq : rq (a * ((2 ^ s : Nat) : Int)).natAbs s = a.natAbs := by
    rw [Int.natAbs_mul, Int.natAbs_natCast]
    unfold rq
    have hh : halfOf s < 2 ^ s := by
      unfold halfOf
      split
      · omega
      · exact Nat.pow_lt_pow_right (by omega) (by omega)
    rw [Nat.add_comm, Nat.add_mul_div_right _ _ hp, Nat.div_eq_of_lt hh, Nat.zero_add]
  unfold rnd withSign
  rw [hq]
  have hs : (a * ((2 ^ s : Nat) : Int) < 0) ↔ a < 0 := by
    constructor
    · intro h
      rcases (by omega : a < 0 ∨ 0 ≤ a) with h1 | h1
      · exact h1
      · have := Int.mul_nonneg h1 (by omega : (0 : Int) ≤ ((2 ^ s : Nat) : Int)); omega
    · intro h
      exact Int.mul_neg_of_neg_of_pos h (by omega)
  by_cases h : a < 0
  · have h' := hs.2 h
    simp only [h', decide_true, if_true]; omega
  · have h' : ¬ (a * ((2 ^ s : Nat) : Int) < 0) := fun e => h (hs.1 e)
    simp only [h', decide_false, Bool.false_eq_true, if_false]; omega
theorem aB {a b : A} (h : A.beq a b = true) : a = b := A.beq_eq h
theorem mkT_ok {g : Sg} (s : Bool) (a b : A) : tV g (mkT s a b) = tV g (s, a, b) := by
  unfold mkT
  cases aLt b a
  · rfl
  · rw [cond_true]
    unfold tV
    simp only
    rw [Int.mul_comm]
theorem insT_ok {g : Sg} (t : Tm) : ∀ l, lV g (insT t l) = tV g t + lV g l
  | [] => rfl
  | u :: r => by
    unfold insT
    cases h : (A.beq t.2.1 u.2.1 && A.beq t.2.2 u.2.2)
    · rw [cond_false]
      cases ltT t u
      · rw [cond_false]
        simp only [lV, insT_ok t r]
        omega
      · rfl
    · rw [cond_true]
      rw [Bool.and_eq_true] at h
      cases hs : (t.1 == u.1)
      · rw [cond_false]
        have e1 := aB h.1
        have e2 := aB h.2
        simp only [lV]
        have : tV g t + tV g u = 0 := by
          unfold tV
          rw [e1, e2]
          generalize satv (A.val g u.2.1) * satv (A.val g u.2.2) = z
          cases ht : t.1 <;> cases hu : u.1
          · rw [ht, hu] at hs; cases hs
          · simp only [Bool.false_eq_true, if_false, if_true]; omega
          · simp only [Bool.false_eq_true, if_false, if_true]; omega
          · rw [ht, hu] at hs; cases hs
        omega
      · rfl
theorem negOf_ok {g : Sg} {st : St} (hg : Good U g st) (a : A) : satv (a.val g) = if (negOf st a).1 = true then -satv ((negOf st a).2.val g) else satv ((negOf st a).2.val g) := by
  cases a with
  | k z =>
    have e : negOf st (.k z) = bif ile 0 z then (false, .k z) else (true, .k (-z)) := rfl
    rw [e]
    cases ile 0 z
    · rw [cond_false]
      simp only [if_true, val_k]
      rw [satv_neg]; omega
    · rw [cond_true]
      simp only [Bool.false_eq_true, if_false]
  | x n =>
    unfold negOf
    simp only
    split
    · rename_i k c y hd
      cases hb : (ieq k 0 && ieq c (-1))
      · rw [cond_false]
        simp only [Bool.false_eq_true, if_false]
      · rw [Bool.and_eq_true, ieq_iff, ieq_iff, decide_eq_true_eq, decide_eq_true_eq] at hb
        obtain ⟨rfl, rfl⟩ := hb
        have e := hg.defs n _ _ hd
        have e : g n = (-1) * y.val g + 0 := e
        rw [cond_true]
        simp only [if_true]
        have e2 : (A.x n).val g = -y.val g := by show g n = _; omega
        rw [e2, satv_neg]
    · simp only [Bool.false_eq_true, if_false]
theorem isZ_ok {g : Sg} {a : A} (h : isZ a = true) : a.val g = 0 := by
  cases a with
  | k z =>
    have h : ieq z 0 = true := h
    rw [ieq_iff, decide_eq_true_eq] at h
    exact h
  | x n => cases h
theorem dotT_ok {g : Sg} {st : St} (hg : Good U g st) : ∀ l, lV g (dotT st l) = dotL (l.map (A.val g))
  | [] => rfl
  | [_] => rfl
  | a :: b :: l => by
    have ih := dotT_ok hg l
    have ha := negOf_ok hg a
    have hb := negOf_ok hg b
    unfold dotT
    simp only [List.map_cons, dotL]
    generalize negOf st a = p at *
    generalize negOf st b = q at *
    obtain ⟨s, x⟩ := p
    obtain ⟨t, y⟩ := q
    simp only at ha hb ⊢
    cases hz : (isZ x || isZ y)
    · rw [cond_false, insT_ok, mkT_ok, ih, ha, hb]
      unfold tV
      simp only
      cases s <;> cases t <;> simp [Int.neg_mul, Int.mul_neg] <;> omega
    · rw [cond_true, ih]
      rw [Bool.or_eq_true] at hz
      have z0 : satv 0 = 0 := by decide
      have : satv (a.val g) * satv (b.val g) = 0 := by
        rcases hz with h | h
        · rw [ha, isZ_ok h, z0]; simp
        · rw [hb, isZ_ok h, z0]; simp
      omega
theorem flip_ok {g : Sg} : ∀ l, lV g (flipT l) = -lV g l
  | [] => rfl
  | (s, a, b) :: r => by
    simp only [flipT, lV, flip_ok r]
    unfold tV
    cases s <;> simp <;> omega
theorem parts_lV {g : Sg} : ∀ l, lV g l = dotL ((flatT (posT l)).map (A.val g)) - dotL ((flatT (negT l)).map (A.val g))
  | [] => rfl
  | (s, a, b) :: r => by
    have ih := parts_lV (g := g) r
    cases s
    · simp only [lV, posT, negT, cond_false, flatT, List.map_cons, dotL, ih]
      unfold tV
      simp
      omega
    · simp only [lV, posT, negT, cond_true, flatT, List.map_cons, dotL, ih]
      unfold tV
      simp
      omega
theorem flat_len : ∀ l, (flatT l).length = 2 * l.length
  | [] => rfl
  | (_, _, _) :: r => by simp [flatT, flat_len r]; omega
theorem mulSm_ok {g : Sg} {st : St} (hg : Good U g st) (a b : A) (s : Nat) : SmT g (satv (rnd (satv (a.val g) * satv (b.val g)) s)) (mulSm st a b s) := by
  unfold mulSm
  cases b with
  | x n => exact rfl
  | k z =>
    simp only
    cases hb : (ieq z ((2 ^ s : Nat) : Int) && (ile z mx && inMx (rangeOf st a)))
    · exact rfl
    · rw [cond_true]
      rw [Bool.and_eq_true, Bool.and_eq_true, ieq_iff, ile_iff, decide_eq_true_eq, decide_eq_true_eq] at hb
      obtain ⟨h1, h2, h3⟩ := hb
      have h3 := inMx_ok h3 (range_ok hg a)
      unfold mx at h2
      have hz0 : (0 : Int) ≤ z := by rw [h1]; exact Int.natCast_nonneg _
      show a.val g = satv (rnd (satv (a.val g) * satv z) s)
      rw [(satv_in h3.1 h3.2).1, (satv_in (a := z) (by omega) h2).1, h1, rnd_one, (satv_in h3.1 h3.2).1]
theorem posSm_ok {g : Sg} {st : St} (hg : Good U g st) (s : Nat) (l : List Tm) : SmT g (satv (rnd (lV g l) s)) (posSm st s l) := by
  unfold posSm
  split
  · show (0 : Int) = satv (rnd 0 s)
    have : rnd 0 s = 0 := by unfold rnd withSign; simp [rq_zero]
    rw [this]; decide
  · rename_i a b
    have := mulSm_ok hg a b s
    simp only [lV]
    rw [Int.add_zero]
    exact this
  · cases hn : isNilT (negT l)
    · rw [cond_false]
      show satv (rnd (dotL (((flatT (posT l) ++ flatT (negT l)).map (A.val g)).take (2 * (posT l).length)) - dotL (((flatT (posT l) ++ flatT (negT l)).map (A.val g)).drop (2 * (posT l).length))) s) = _
      rw [← List.map_take, ← List.map_drop, ← flat_len, List.take_left, List.drop_left, ← parts_lV]
    · rw [cond_true]
      have e : negT l = [] := by
        generalize negT l = m at hn
        cases m with
        | nil => rfl
        | cons _ _ => cases hn
      show satv (rnd (dotL ((flatT (posT l)).map (A.val g))) s) = _
      rw [parts_lV l, e]
      simp [flatT, dotL]
theorem negSm_ok {g : Sg} {T : Int} {m : Sm} (h : SmT g (satv T) m) : SmT g (satv (-T)) (negSm m) := by
  have l1 := satv_lo T
  have l2 := satv_hi T
  rw [satv_neg]
  cases m with
  | same a =>
    have h : a.val g = satv T := h
    show wrapF .i64 (0 - a.val g) = -satv T
    rw [h, wrap_small (by omega) (by omega)]; omega
  | op p ys =>
    have h : mean U p (ys.map (A.val g)) = satv T := h
    exact ⟨by rw [h], by omega, by omega⟩
  | sum _ _ _ => trivial
  | neg _ _ => trivial
  | no => trivial
theorem dotSm_ok {g : Sg} {st : St} (hg : Good U g st) (s : Nat) (xa : List A) : SmT g (satv (rnd (dotL (xa.map (A.val g))) s)) (dotSm st s xa) := by
  have e := dotT_ok hg xa
  unfold dotSm
  split
  · rename_i a b r hd
    rw [← e, hd]
    have h := posSm_ok hg s (flipT ((true, a, b) :: r))
    rw [flip_ok, rnd_neg] at h
    have := negSm_ok h
    rwa [Int.neg_neg] at this
  · rw [← e]
    exact posSm_ok hg s _
theorem allMx_ok {g : Sg} {st : St} (hg : Good U g st) : ∀ {l : List A}, allMx st l = true → anyL (l.map (A.val g)) = false ∧ dotH (l.map (A.val g)) = false ∧ (∀ a ∈ l, satv (a.val g) = a.val g)
  | [], _ => ⟨rfl, rfl, fun a ha => by cases ha⟩
  | a :: l, h => by
    unfold allMx at h
    rw [Bool.and_eq_true] at h
    have h1 := inMx_ok h.1 (range_ok hg a)
    obtain ⟨k1, k2, k3⟩ := allMx_ok hg h.2
    refine ⟨by simp only [List.map_cons, anyL, k1, (satv_in h1.1 h1.2).2]; rfl, ?_, fun b hb => ?_⟩
    · cases l with
      | nil => rfl
      | cons b l =>
        have h2 := h.2
        unfold allMx at h2
        rw [Bool.and_eq_true] at h2
        have h3 := inMx_ok h2.1 (range_ok hg b)
        obtain ⟨_, m2, _⟩ := allMx_ok hg h2.2
        simp only [List.map_cons, dotH, m2, (satv_in h1.1 h1.2).2, (satv_in h3.1 h3.2).2]; rfl
    · rcases List.mem_cons.1 hb with rfl | hb
      · exact (satv_in h1.1 h1.2).1
      · exact k3 b hb
theorem rs_of {g : Sg} {st : St} (hg : Good U g st) : ∀ l : List A, Rs g l (l.map (rangeOf st))
  | [] => trivial
  | a :: l => ⟨range_ok hg a, rs_of hg l⟩
theorem linRg_ok {g : Sg} {st : St} (hg : Good U g st) (sb : Bool) (a b : A) : within (linRg st sb a b) (bif sb then a.val g - b.val g else a.val g + b.val g) := by
  have e1 := linF_val hg a
  have e2 := linF_val hg b
  unfold linRg
  generalize linF st a = x at *
  generalize linF st b = y at *
  obtain ⟨k, l⟩ := x
  obtain ⟨j, m⟩ := y
  simp only at e1 e2 ⊢
  have h := fun k' (l' : List (Int × A)) => linR_ok (g := g) (k := k') (cs := l'.map Prod.fst) (rs_of hg (l'.map Prod.snd))
  cases sb
  · have := h (k + j) (addF 1 m l)
    rw [linV_val, addF_val] at this
    have e : a.val g + b.val g = k + j + (1 * valF g m + valF g l) := by omega
    simp only [cond_false]
    rw [e]; exact this
  · have := h (k - j) (addF (-1) m l)
    rw [linV_val, addF_val] at this
    have e : a.val g - b.val g = k - j + (-1 * valF g m + valF g l) := by omega
    simp only [cond_true]
    rw [e]; exact this
theorem bothL_ok {g : Sg} {st : St} (hg : Good U g st) {sb : Bool} {a b : A} (h : bothL st sb a b = true) :
    (-1152921504606846976 ≤ a.val g ∧ a.val g ≤ 1152921504606846976) ∧ (-1152921504606846976 ≤ b.val g ∧ b.val g ≤ 1152921504606846976) ∧ (-1152921504606846976 ≤ (bif sb then a.val g - b.val g else a.val g + b.val g) ∧ (bif sb then a.val g - b.val g else a.val g + b.val g) ≤ 1152921504606846976) := by
  unfold bothL at h
  rw [Bool.and_eq_true, Bool.and_eq_true, Bool.or_eq_true] at h
  obtain ⟨⟨h1, h2⟩, h3⟩ := h
  refine ⟨inMx_ok h1 (range_ok hg a), inMx_ok h2 (range_ok hg b), ?_⟩
  rcases h3 with h3 | h3
  · cases sb
    · exact inMx_ok h3 (rawAdd_ok (range_ok hg a) (range_ok hg b))
    · exact inMx_ok h3 (rawSub_ok (range_ok hg a) (range_ok hg b))
  · exact inMx_ok h3 (linRg_ok hg sb a b)
theorem dq_scale (t n d : Nat) (ht : 0 < t) : dq (t * n) (t * d) = dq n d := by
  unfold dq
  rw [Nat.mul_div_mul_left _ _ ht, Nat.mul_mod_mul_left]
  have e : t * d ≤ 2 * (t * (n % d)) ↔ d ≤ 2 * (n % d) := by
    rw [show 2 * (t * (n % d)) = t * (2 * (n % d)) by rw [Nat.mul_left_comm]]
    exact Nat.mul_le_mul_left_iff ht
  simp only [e]
theorem divv_scale (t v d : Int) (ht : 0 < t) : divv (t * v) (t * d) = divv v d := by
  have neg : ∀ z : Int, t * z < 0 ↔ z < 0 := fun z => by
    constructor
    · intro h
      rcases Int.lt_or_le z 0 with h1 | h1
      · exact h1
      · have := Int.mul_nonneg (Int.le_of_lt ht) h1; omega
    · intro h; exact Int.mul_neg_of_pos_of_neg ht h
  have zer : t * d = 0 ↔ d = 0 := by
    constructor
    · intro h
      rcases Int.mul_eq_zero.1 h with h | h
      · omega
      · exact h
    · intro h; rw [h, Int.mul_zero]
  have hw : ∀ z : Int, (wh z < 0) ↔ z < 0 := fun z => by unfold wh; omega
  unfold divv
  by_cases h0 : d = 0
  · rw [if_pos h0, if_pos (zer.2 h0)]
    rcases Int.lt_trichotomy v 0 with h | h | h
    · rw [side_neg h, side_neg ((neg v).2 h)]
    · subst h; rw [Int.mul_zero]
    · rw [side_pos h, side_pos (Int.mul_pos ht h)]
  · rw [if_neg h0, if_neg (fun h => h0 (zer.1 h))]
    congr 1
    unfold divZ
    rw [Int.natAbs_mul, Int.natAbs_mul, dq_scale _ _ _ (by omega)]
    congr 1
    rw [decide_eq_decide.2 ((hw (t * v)).trans ((neg v).trans (hw v).symm)), decide_eq_decide.2 (neg d)]
theorem reL_ok {g : Sg} {st : St} (hg : Good U g st) {c : Int} {x r : A} (h : reL st c x = some r) : r.val g = c * x.val g := by
  unfold reL at h
  cases hc : ieq c 1
  · rw [hc, cond_false] at h
    split at h
    · rename_i n hn
      cases h
      have e := hg.defs n _ _ (findIn_def hn)
      have e : g n = c * x.val g + 0 := e
      show g n = _
      omega
    · cases h
  · rw [hc, cond_true] at h
    cases h
    rw [ieq_iff, decide_eq_true_eq] at hc
    rw [hc, Int.one_mul]
theorem strike_ok {g : Sg} {st : St} (hg : Good U g st) (a b : A) (s : Nat) : SmOk g 4 [a, b, .k (.ofNat s)] (strike st a b s) := by
  have e1 := linF_val hg a
  have e2 := linF_val hg b
  unfold strike
  generalize linF st a = p at *
  generalize linF st b = q at *
  split
  · rename_i k c x j d y
    simp only [valF] at e1 e2
    cases hb : (ieq k 0 && (ieq j 0 && (ieq (imax c (-c)) (imax d (-d)) && (ile 2 (imax c (-c)) && (inMx (rangeOf st a) && inMx (rangeOf st b))))))
    · trivial
    · rw [cond_true]
      rw [Bool.and_eq_true, Bool.and_eq_true, Bool.and_eq_true, Bool.and_eq_true, Bool.and_eq_true, ieq_iff, ieq_iff, ieq_iff, ile_iff, decide_eq_true_eq, decide_eq_true_eq, decide_eq_true_eq, decide_eq_true_eq] at hb
      obtain ⟨rfl, rfl, h3, h4, h5, h6⟩ := hb
      have m1 := inMx_ok h5 (range_ok hg a)
      have m2 := inMx_ok h6 (range_ok hg b)
      split
      · rename_i x' y' hx hy
        have k1 := reL_ok hg hx
        have k2 := reL_ok hg hy
        rw [imax_eq, imax_eq] at h3
        rw [imax_eq] at h4 k1 k2
        have cd : ∀ z t : Int, 2 ≤ t → (t = z ∨ t = -z) → t * (z / t) = z := fun z t ht h => by
          rcases h with h | h
          · rw [← h, Int.ediv_self (by omega)]; omega
          · rw [show z = -t by omega, Int.neg_ediv_of_dvd (Int.dvd_refl t), Int.ediv_self (by omega)]; omega
        generalize ht : (if c ≤ -c then -c else c) = t at *
        have c1 := cd c t h4 (by split at ht <;> omega)
        have c2 := cd d t h4 (by split at h3 <;> omega)
        have a1 : a.val g = t * x'.val g := by rw [k1, ← Int.mul_assoc, c1]; omega
        have a2 : b.val g = t * y'.val g := by rw [k2, ← Int.mul_assoc, c2]; omega
        have small : ∀ z w : Int, z = t * w → -1152921504606846976 ≤ z → z ≤ 1152921504606846976 → -1152921504606846976 ≤ w ∧ w ≤ 1152921504606846976 := fun z w e z1 z2 => by
          rcases Int.le_total 0 w with h | h
          · have := Int.mul_le_mul_of_nonneg_right (show (1 : Int) ≤ t by omega) h
            omega
          · have := Int.mul_le_mul_of_nonpos_right (show (1 : Int) ≤ t by omega) h
            omega
        have m3 := small _ _ a1 m1.1 m1.2
        have m4 := small _ _ a2 m2.1 m2.2
        show divv (satv (x'.val g) * 2 ^ s) (satv (y'.val g)) = divv (satv (a.val g) * 2 ^ s) (satv (b.val g))
        rw [(satv_in m1.1 m1.2).1, (satv_in m2.1 m2.2).1, (satv_in m3.1 m3.2).1, (satv_in m4.1 m4.2).1, a1, a2, Int.mul_assoc]
        exact (divv_scale _ _ _ (by omega)).symm
      · trivial
  · trivial
theorem sqL_filter {g : Sg} : ∀ l : List A, sqL ((l.filter fun a => !isZ a).map (A.val g)) = sqL (l.map (A.val g))
  | [] => rfl
  | a :: l => by
    have ih := sqL_filter (g := g) l
    cases hz : isZ a
    · rw [List.filter_cons_of_pos (by rw [hz]; rfl)]
      simp only [List.map_cons, sqL, ih]
    · rw [List.filter_cons_of_neg (by rw [hz]; decide)]
      simp only [List.map_cons, sqL, ih, isZ_ok hz]
      have z0 : satv 0 = 0 := by decide
      rw [z0]; simp
theorem simpV_ok {g : Sg} {st : St} (hg : Good U g st) {n : Nat} {xa : List A} : SmOk g n xa (simpV st n xa) := by
  unfold simpV
  split
  · rename_i a
    cases hb : inMx (rangeOf st a)
    · trivial
    · have := inMx_ok hb (range_ok hg a)
      simp only [cond_true]
      exact (satv_in this.1 this.2).1.symm
  · rename_i a lo hi
    cases hb : inBnd lo hi (rangeOf st a)
    · rw [cond_false]
      cases h1 : (ile lo hi && above hi (rangeOf st a))
      · rw [cond_false]
        cases h2 : (ile lo hi && under lo (rangeOf st a))
        · rw [cond_false]
          cases h3 : (ile lo hi && above lo (rangeOf st a))
          · rw [cond_false]
            cases h4 : (ile lo hi && under hi (rangeOf st a))
            · trivial
            · rw [cond_true]
              rw [Bool.and_eq_true, ile_iff, decide_eq_true_eq] at h4
              have := under_ok h4.2 (range_ok hg a)
              show (bif ile lo (a.val g) then a.val g else lo) = clampv (a.val g) lo hi
              rw [ile_iff, Bool.cond_decide]
              unfold clampv
              (repeat' split) <;> omega
          · rw [cond_true]
            rw [Bool.and_eq_true, ile_iff, decide_eq_true_eq] at h3
            have := above_ok h3.2 (range_ok hg a)
            show (bif ile (a.val g) hi then a.val g else hi) = clampv (a.val g) lo hi
            rw [ile_iff, Bool.cond_decide]
            unfold clampv
            (repeat' split) <;> omega
        · rw [cond_true]
          rw [Bool.and_eq_true, ile_iff, decide_eq_true_eq] at h2
          have := under_ok h2.2 (range_ok hg a)
          show lo = clampv (a.val g) lo hi
          unfold clampv
          (repeat' split) <;> omega
      · rw [cond_true]
        rw [Bool.and_eq_true, ile_iff, decide_eq_true_eq] at h1
        have := above_ok h1.2 (range_ok hg a)
        show hi = clampv (a.val g) lo hi
        unfold clampv
        (repeat' split) <;> omega
    · have := inBnd_ok hb (range_ok hg a)
      simp only [cond_true]
      show a.val g = clampv (a.val g) lo hi
      unfold clampv
      rw [if_neg (by omega), if_neg (by omega), if_neg (by omega)]
  · rename_i a b s
    have := dotSm_ok hg s [a, b]
    simp only [List.map_cons, List.map_nil, dotL, Int.zero_add] at this
    exact this
  · exact dotSm_ok hg _ _
  · rename_i a b s
    cases hz : isZ a
    · exact strike_ok hg _ _ _
    · rw [cond_true]
      show (0 : Int) = divv (satv (a.val g) * 2 ^ s) (satv (b.val g))
      have z0 : satv 0 = 0 := by decide
      rw [isZ_ok hz, z0, Int.zero_mul]
      unfold divv
      split
      · exact side_zero.symm
      · have e : divZ 0 (satv (b.val g)) = 0 := by
          have h0 : 0 < (satv (b.val g)).natAbs := by omega
          rw [divZ_sign, show (0 : Int).natAbs = 0 from rfl, dq_zero _ h0]
          unfold withSign
          split <;> rfl
        rw [e]; decide
  · rename_i a b
    cases hb : bothL st true a b
    · trivial
    · obtain ⟨h1, h2, h4⟩ := bothL_ok hg hb
      rw [cond_true] at h4
      simp only [cond_true]
      show wrapF .i64 (a.val g - b.val g) = satv (satv (a.val g) - satv (b.val g))
      rw [(satv_in h1.1 h1.2).1, (satv_in h2.1 h2.2).1, (satv_in h4.1 h4.2).1, wrap_small (by omega) (by omega)]
  · rename_i a b
    cases hb : bothL st false a b
    · trivial
    · obtain ⟨h1, h2, h4⟩ := bothL_ok hg hb
      rw [cond_false] at h4
      simp only [cond_true]
      show wrapF .i64 (a.val g + b.val g) = satv (0 + satv (b.val g) + satv (a.val g))
      rw [(satv_in h1.1 h1.2).1, (satv_in h2.1 h2.2).1, show 0 + b.val g + a.val g = a.val g + b.val g by omega, (satv_in h4.1 h4.2).1, wrap_small (by omega) (by omega)]
  · cases hz : xa.any isZ
    · trivial
    · rw [cond_true]
      show satv (rootF (sqL ((xa.filter fun a => !isZ a).map (A.val g))).toNat : Nat) = satv (rootF (sqL (xa.map (A.val g))).toNat : Nat)
      rw [sqL_filter]
  · trivial
theorem noHit_ok {g : Sg} {st : St} (hg : Good U g st) {n : Nat} {xa : List A} (h : noHit st n xa = true) : ieq (U n (xa.map (A.val g))) 1 = false := by
  unfold noHit at h
  split at h
  · rename_i a
    have := inMx_ok h (range_ok hg a)
    show ieq (b2i (sath (a.val g))) 1 = false
    rw [ieq_b2i, (satv_in this.1 this.2).2]
  · rename_i a lo hi
    have := inBnd_ok h (range_ok hg a)
    show ieq (b2i (clamph (a.val g) lo hi)) 1 = false
    rw [ieq_b2i]
    unfold clamph
    rw [decide_eq_false (by omega), decide_eq_false (by omega), decide_eq_false (by omega)]
    rfl
  · rename_i a
    have := inBnd_ok h (range_ok hg a)
    unfold mx at this
    show ieq (b2i (sath (a.val g) || decide (satv (a.val g) < 0))) 1 = false
    rw [ieq_b2i, (satv_in (by omega) this.2).2, (satv_in (by omega) this.2).1, decide_eq_false (by omega)]
    rfl
  · rename_i a b
    obtain ⟨h1, h2, h4⟩ := bothL_ok hg h
    rw [cond_true] at h4
    show ieq (b2i (sath (a.val g) || sath (b.val g) || sath (satv (a.val g) - satv (b.val g)))) 1 = false
    rw [ieq_b2i, (satv_in h1.1 h1.2).1, (satv_in h2.1 h2.2).1, (satv_in h1.1 h1.2).2, (satv_in h2.1 h2.2).2, (satv_in h4.1 h4.2).2]
    rfl
  · rename_i a b
    obtain ⟨h1, h2, h4⟩ := bothL_ok hg h
    rw [cond_false] at h4
    show ieq (b2i ((false || sath (b.val g) || sath (a.val g)) || sath (0 + satv (b.val g) + satv (a.val g)))) 1 = false
    rw [ieq_b2i, (satv_in h1.1 h1.2).1, (satv_in h2.1 h2.2).1, (satv_in h1.1 h1.2).2, (satv_in h2.1 h2.2).2, show 0 + b.val g + a.val g = a.val g + b.val g by omega, (satv_in h4.1 h4.2).2]
    rfl
  · rw [Bool.and_eq_true] at h
    obtain ⟨k1, _, _⟩ := allMx_ok hg h.1
    have h4 := inMx_ok h.2 (sumR_ok (rs_of hg xa))
    show ieq (b2i (anyL (xa.map (A.val g)) || sath (sumL (xa.map (A.val g))))) 1 = false
    rw [ieq_b2i, k1, (satv_in h4.1 h4.2).2]
    rfl
  · rename_i s l
    rw [Bool.and_eq_true, Bool.or_eq_true] at h
    obtain ⟨_, k1, k3⟩ := allMx_ok hg h.1
    have h4 : -1152921504606846976 ≤ rnd (dotL (l.map (A.val g))) s ∧ rnd (dotL (l.map (A.val g))) s ≤ 1152921504606846976 := by
      rcases h.2 with h2 | h2
      · exact inMx_ok h2 (rndR_ok (s := s) (dotR_ok (rs_of hg l)))
      · have hid : (l.map (A.val g)).map satv = l.map (A.val g) := by
          rw [List.map_map]
          exact List.map_congr_left fun a ha => k3 a ha
        have e2 : pv g (dotP 1 l) = dotL (l.map (A.val g)) := by rw [dotP_v, dP_dot hid, Int.one_mul]
        have := inMx_ok h2 (rndR_ok (s := s) (poly_dot hg (dotP 1 l)))
        rwa [e2] at this
    show ieq (b2i (dotH (l.map (A.val g)) || sath (rnd (dotL (l.map (A.val g))) s))) 1 = false
    rw [ieq_b2i, k1, (satv_in h4.1 h4.2).2]
    rfl
  · rw [Bool.and_eq_true] at h
    obtain ⟨k1, _, _⟩ := allMx_ok hg h.1
    have hr : ∀ r, hypR (xa.map (rangeOf st)) = r → inMx r = true → sath (rootN (sqL (xa.map (A.val g))).toNat : Nat) = false := fun r hr hm => by
      match r, hm with
      | some (a, b), hm =>
        have k := hypR_ok (rs_of hg xa) a b hr
        have k2 := hyp_le (xa.map (A.val g))
        unfold inMx at hm
        rw [Bool.and_eq_true, ile_iff, ile_iff, decide_eq_true_eq, decide_eq_true_eq] at hm
        unfold mx at hm
        exact (satv_in (by omega) (by omega)).2
    show ieq (b2i (anyL (xa.map (A.val g)) || sath (rootF (sqL (xa.map (A.val g))).toNat : Nat))) 1 = false
    rw [rootF_eq, ieq_b2i, k1, hr _ rfl h.2]
    rfl
  · rename_i a b s
    obtain ⟨h1, h2, h3⟩ := both_ok hg h
    have h4 := inMx_ok h3 (prodR_ok (range_ok hg a) (range_ok hg b))
    show ieq (b2i (sath (a.val g) || sath (b.val g) || sath (rnd (satv (a.val g) * satv (b.val g)) s))) 1 = false
    rw [ieq_b2i, (satv_in h1.1 h1.2).1, (satv_in h2.1 h2.2).1, (satv_in h1.1 h1.2).2, (satv_in h2.1 h2.2).2, (satv_in h4.1 h4.2).2]
    rfl
  · rename_i a b s
    obtain ⟨h1, h2, h3⟩ := both_ok hg h
    show ieq (b2i (sath (a.val g) || sath (b.val g) || divh (satv (a.val g) * 2 ^ s) (satv (b.val g)))) 1 = false
    rw [ieq_b2i, (satv_in h1.1 h1.2).1, (satv_in h2.1 h2.2).1, (satv_in h1.1 h1.2).2, (satv_in h2.1 h2.2).2]
    rw [show (2 ^ s : Int) = ((2 ^ s : Nat) : Int) by simp]
    have key : ∀ r, ratioR s (rangeOf st a) (rangeOf st b) = r → inMx r = true → divh (a.val g * ((2 ^ s : Nat) : Int)) (b.val g) = false := fun r hr hm => by
      match r, hm with
      | some (lo, hi), hm =>
        obtain ⟨k0, k1, k2⟩ := ratioR_ok (range_ok hg a) (range_ok hg b) lo hi hr
        have := inMx_ok hm (within_some k1 k2)
        unfold divh
        rw [if_neg (by omega)]
        exact (satv_in this.1 this.2).2
    rw [key _ rfl h3]
    rfl
  · rename_i a b c
    rw [Bool.and_eq_true, Bool.and_eq_true, Bool.and_eq_true] at h
    have h1 := inMx_ok h.1.1 (range_ok hg a)
    have h2 := inMx_ok h.1.2 (range_ok hg b)
    have h3 := inMx_ok h.2.1 (range_ok hg c)
    show ieq (b2i (sath (a.val g) || sath (b.val g) || sath (c.val g) || divh (satv (a.val g) * satv (b.val g)) (satv (c.val g)))) 1 = false
    rw [ieq_b2i, (satv_in h1.1 h1.2).1, (satv_in h2.1 h2.2).1, (satv_in h3.1 h3.2).1, (satv_in h1.1 h1.2).2, (satv_in h2.1 h2.2).2, (satv_in h3.1 h3.2).2]
    have key : ∀ r, ratioR 0 (prod0R (rangeOf st a) (rangeOf st b)) (rangeOf st c) = r → inMx r = true → divh (a.val g * b.val g) (c.val g) = false := fun r hr hm => by
      match r, hm with
      | some (lo, hi), hm =>
        obtain ⟨k0, k1, k2⟩ := ratioR_ok (prod0_ok (range_ok hg a) (range_ok hg b)) (range_ok hg c) lo hi hr
        rw [show ((2 ^ 0 : Nat) : Int) = 1 from rfl, Int.mul_one] at k1 k2
        have := inMx_ok hm (within_some k1 k2)
        unfold divh
        rw [if_neg (by omega)]
        exact (satv_in this.1 this.2).2
    rw [key _ rfl h.2.2]
    rfl
  · cases h
def valA (n : Nat) (xa : List A) (st : St) : A × St := match allK xa with
  | some l => (.k (U n l), st)
  | none => match simpV st n xa with
    | .same a => (a, st)
    | .op p ys => app U p ys st
    | .sum sb a b => sumA U sb a b st
    | .neg p ys => (match app U p ys st with
      | (r, st1) => sumA U true (.k 0) r st1)
    | .no => app U (.u n) xa st
/-- Products in one order, their signs apart, whichever sign the sum has. -/
def hitT : List Tm → List Tm
  | (true, a, b) :: r => flipT ((true, a, b) :: r)
  | l => l
def hitL (st : St) (s : Nat) (l : List A) : List A := .k (.ofNat s) :: .k (.ofNat (posT (hitT (dotT st l))).length) :: (flatT (posT (hitT (dotT st l))) ++ flatT (negT (hitT (dotT st l))))
theorem sath_rnd_neg (v : Int) (s : Nat) : sath (rnd (-v) s) = sath (rnd v s) := by rw [rnd_neg, sath_neg]
theorem hitL_ok {g : Sg} {st : St} (hg : Good U g st) (s : Nat) (l : List A) : U 41 ((hitL st s l).map (A.val g)) = b2i (sath (rnd (dotL (l.map (A.val g))) s)) := by
  have e := dotT_ok hg l
  have h : ∀ t : List Tm, U 41 ((.k (.ofNat s) :: .k (.ofNat (posT t).length) :: (flatT (posT t) ++ flatT (negT t)) : List A).map (A.val g)) = b2i (sath (rnd (lV g t) s)) := fun t => by
    show b2i (sath (rnd (dotL (((flatT (posT t) ++ flatT (negT t)).map (A.val g)).take (2 * (posT t).length)) - dotL (((flatT (posT t) ++ flatT (negT t)).map (A.val g)).drop (2 * (posT t).length))) s)) = _
    rw [← List.map_take, ← List.map_drop, ← flat_len, List.take_left, List.drop_left, ← parts_lV]
  rw [← e]
  unfold hitL
  rw [h]
  generalize dotT st l = t
  unfold hitT
  split
  · rw [flip_ok, sath_rnd_neg]
  · rfl
def hitA0 (n : Nat) (xa : List A) (st : St) : A × St := match n, xa with
  | 17, .k (.ofNat s) :: l => bif allMx st l then app U (.u 41) (hitL st s l) st else app U (.u n) xa st
  | 3, [a, b, .k (.ofNat s)] => bif allMx st [a, b] then app U (.u 41) (hitL st s [a, b]) st else app U (.u n) xa st
  | _, _ => app U (.u n) xa st
theorem hitA0_ok {g : Sg} {n : Nat} {xa : List A} {r : A} {st st' : St} (h : hitA0 n xa st = (r, st')) (hg : Good U g st') :
    Good U g st ∧ Same st st' ∧ r.val g = U n (xa.map (A.val g)) := by
  unfold hitA0 at h
  split at h
  · rename_i s l
    cases hm : allMx st l
    · rw [hm] at h; exact app_ok h hg
    · rw [hm, cond_true] at h
      obtain ⟨h1, h2, h3⟩ := app_ok h hg
      refine ⟨h1, h2, ?_⟩
      rw [h3]
      show U 41 ((hitL st s l).map (A.val g)) = _
      rw [hitL_ok h1]
      show _ = b2i (dotH (l.map (A.val g)) || sath (rnd (dotL (l.map (A.val g))) s))
      rw [(allMx_ok h1 hm).2.1]; rfl
  · rename_i a b s
    cases hm : allMx st [a, b]
    · rw [hm] at h; exact app_ok h hg
    · rw [hm, cond_true] at h
      obtain ⟨h1, h2, h3⟩ := app_ok h hg
      refine ⟨h1, h2, ?_⟩
      rw [h3]
      show U 41 ((hitL st s [a, b]).map (A.val g)) = _
      rw [hitL_ok h1]
      have k := (allMx_ok h1 hm).2.1
      have k2 : (sath (a.val g) || sath (b.val g)) = false := by simpa [dotH] using k
      show b2i (sath (rnd (0 + satv (a.val g) * satv (b.val g)) s)) = b2i (sath (a.val g) || sath (b.val g) || sath (rnd (satv (a.val g) * satv (b.val g)) s))
      rw [k2, Int.zero_add]; rfl
  · exact app_ok h hg
def hitA (n : Nat) (xa : List A) (st : St) : A × St := match allK xa with
  | some l => (.k (U n l), st)
  | none => bif noHit st n xa then (.k 0, st) else hitA0 n xa st
theorem valA_ok {g : Sg} {n : Nat} {xa : List A} {r : A} {st st' : St} (h : valA n xa st = (r, st')) (hg : Good U g st') :
    Good U g st ∧ Same st st' ∧ r.val g = U n (xa.map (A.val g)) := by
  unfold valA at h
  split at h
  · rename_i l hl
    cases h
    exact ⟨hg, Same.refl _, by rw [allK_val hl]; rfl⟩
  · split at h
    · rename_i a hs
      cases h
      have := simpV_ok hg (n := n) (xa := xa)
      rw [hs] at this
      exact ⟨hg, Same.refl _, this⟩
    · rename_i p ys hs
      obtain ⟨h1, h2, h3⟩ := app_ok h hg
      have := simpV_ok h1 (n := n) (xa := xa)
      rw [hs] at this
      exact ⟨h1, h2, h3.trans this⟩
    · rename_i sb a b hs
      obtain ⟨h1, h2, h3⟩ := sumA_ok h hg
      have := simpV_ok h1 (n := n) (xa := xa)
      rw [hs] at this
      exact ⟨h1, h2, h3.trans this⟩
    · rename_i p ys hs
      split at h
      rename_i r1 st1 ha
      obtain ⟨h1, h2, h3⟩ := sumA_ok h hg
      obtain ⟨k1, k2, k3⟩ := app_ok ha h1
      have := simpV_ok k1 (n := n) (xa := xa)
      rw [hs] at this
      obtain ⟨t1, t2, t3⟩ := this
      refine ⟨k1, k2.trans h2, ?_⟩
      rw [h3, k3]
      show wrapF .i64 (0 - mean U p (ys.map (A.val g))) = _
      rw [wrap_small (by omega) (by omega)]
      omega
    · exact app_ok h hg
theorem hitA_ok {g : Sg} {n : Nat} {xa : List A} {r : A} {st st' : St} (h : hitA n xa st = (r, st')) (hg : Good U g st') :
    Good U g st ∧ Same st st' ∧ ieq (r.val g) 1 = ieq (U n (xa.map (A.val g))) 1 := by
  unfold hitA at h
  split at h
  · rename_i l hl
    cases h
    exact ⟨hg, Same.refl _, by rw [allK_val hl]; rfl⟩
  · cases hb : noHit st n xa
    · rw [hb] at h
      obtain ⟨h1, h2, h3⟩ := hitA0_ok h hg
      exact ⟨h1, h2, by rw [h3]⟩
    · rw [hb] at h
      cases h
      exact ⟨hg, Same.refl _, by rw [noHit_ok hg hb]; rfl⟩
/-- A number without its sign; where it is small, its sign is asked for. -/
def absA (a : A) (st : St) : A × St := match a with
  | .k z => (.k (absv z), st)
  | .x n => bif inMx (rangeOf st (.x n)) then (match lssA U (.x n) (.k 0) st with
      | (r, st1) => match decA r st1 with
        | (c, st2) => bif c then sumA U true (.k 0) (.x n) st2 else (.x n, st2))
    else app U (.u 12) [.x n] st
theorem absA_ok {g : Sg} {a r : A} {st st' : St} (h : absA a st = (r, st')) (hg : Good U g st') : Good U g st ∧ Same st st' ∧ r.val g = absv (a.val g) := by
  unfold absA at h
  split at h
  · cases h; exact ⟨hg, Same.refl _, rfl⟩
  · rename_i n
    cases hb : inMx (rangeOf st (.x n))
    · rw [hb, cond_false] at h
      exact app_ok h hg
    · rw [hb] at h
      rw [cond_true] at h
      split at h
      rename_i q st1 h1
      split at h
      rename_i c st2 h2
      cases c
      · cases h
        obtain ⟨k1, k2, k3⟩ := decA_ok h2 hg
        obtain ⟨l1, l2, l3⟩ := lssA_ok h1 k1
        have := inMx_ok hb (range_ok l1 _)
        refine ⟨l1, l2.trans k2, ?_⟩
        rw [k3] at l3
        have l3 := of_decide_eq_false l3.symm
        rw [val_k] at l3
        generalize (A.x n).val g = z at *
        unfold absv
        rw [if_neg (by omega), if_neg (by omega)]
        omega
      · rw [cond_true] at h
        obtain ⟨m1, m2, m3⟩ := sumA_ok h hg
        obtain ⟨k1, k2, k3⟩ := decA_ok h2 m1
        obtain ⟨l1, l2, l3⟩ := lssA_ok h1 k1
        have := inMx_ok hb (range_ok l1 _)
        refine ⟨l1, (l2.trans k2).trans m2, ?_⟩
        rw [k3] at l3
        have l3 := of_decide_eq_true l3.symm
        rw [val_k] at l3
        rw [m3]
        show wrapF .i64 (0 - (A.x n).val g) = _
        generalize (A.x n).val g = z at *
        rw [wrap_small (by omega) (by omega)]
        unfold absv
        rw [if_neg (by omega), if_neg (by omega)]
        omega
def flagA (n o : Nat) (pv ph : Nat) (xa : List A) (st : St) : Option (V × St) :=
  match hget st.heap n with
  | none => none
  | some bk => match bif bk.kd.free then lkL bk.cells o else none with
    | some (.b h) => (match valA pv xa st with
      | (rv, st1) => match hitA ph xa st1 with
        | (rh, st2) => match orA h rh st2 with
          | (h', st3) => some (.w (.c (.i .i64 rv)), { st3 with heap := hset st3.heap n ⟨bk.cells.set o (.b h'), bk.ty, bk.kd⟩ }))
    | _ => none
theorem lkL_lt {α : Type} {l : List α} {i : Nat} {x : α} (h : lkL l i = some x) : i < l.length := (List.getElem?_eq_some_iff.1 (lkL_get h)).1
theorem DL.set {g : Sg} {r : Rho} {l : List C} {vs : List Value} (h : DL g r l vs) (o : Nat) {c : C} {v : Value} (hc : c.den g r = some v) : DL g r (l.set o c) (vs.set o v) := by
  unfold DL at *
  rw [List.map_set, List.map_set, h, hc]
/-- A flag that a call sets where something has been clamped: memory before it and behind it. -/
theorem flag_mem {g : Sg} {st : St} {n o : Nat} {bk : Bk} {h h' : A} (hb : hget st.heap n = some bk) (hfr : bk.kd.free = true) (hl : lkL bk.cells o = some (.b h)) {r : Rho} {w : World} (hI : Inv g r st w) {q : Nat} (hq : r n = some q) {st' : St}
    (hst : st'.heap = hset st.heap n ⟨bk.cells.set o (.b h'), bk.ty, bk.kd⟩) (hnx : st'.next = st.next) (hrs : st'.resv = st.resv) :
    Fl q (r.f n + o) (ieq (h.val g) 1) w ∧ ∀ w', FlW q (r.f n + o) (ieq (h'.val g) 1) w w' → Inv g r st' w' ∧ Ext r w r w' := by
  have hB := hI.holds n bk q hb hq
  obtain ⟨hro, pre, vs, post, hw, hpre, hD, hside⟩ := hB.free hfr
  obtain ⟨u, hu, hd⟩ := hD.get hl
  have hou : o < vs.length := (List.getElem?_eq_some_iff.1 hu).1
  have hu' : u = .bool (ieq (h.val g) 1) := (Option.some.inj hd).symm
  have hcell : (pre ++ (vs ++ post))[r.f n + o]? = some u := by
    rw [← hpre, List.getElem?_append_right (by omega), Nat.add_sub_cancel_left, List.getElem?_append_left hou]; exact hu
  have hF : Fl q (r.f n + o) (ieq (h.val g) 1) w := ⟨by rw [cell_of_heap hw, hcell, hu'], by simp [World.frozen?, hw], hI.lt n q hq⟩
  refine ⟨hF, fun w' hk => ⟨⟨?_, ?_, ?_, ?_, ?_, hI.nobar, by rw [hnx, hrs]; exact hI.free⟩, ⟨Sub.refl _, fun k _ h h2 => .inl ⟨k, h, h2⟩, hk.size, ?_, ?_, ?_, ?_, rfl⟩⟩⟩
  · intro m b b' hm k1
    rw [hst, hget_hset] at hm
    by_cases e : m = n
    · subst e
      simp only [if_true, Option.some.injEq] at hm; subst hm
      rw [hq] at k1; cases k1
      refine .inr ⟨hro, pre, vs.set o (.bool (ieq (h'.val g) 1)), post, ?_, hpre, hD.set o rfl, by rw [List.length_set]; exact hside⟩
      have e2 : pre ++ (vs.set o (.bool (ieq (h'.val g) 1)) ++ post) = (pre ++ (vs ++ post)).set (r.f m + o) (.bool (ieq (h'.val g) 1)) := by
        rw [← hpre, List.set_append_right _ _ (by omega), Nat.add_sub_cancel_left, List.set_append_left _ _ hou]
      rw [e2, hk.out.block q hF.lt, set_block hw]
      simp
    · rw [if_neg e] at hm
      have k2 := hI.holds m b b' hm k1
      exact k2.world (hk.block (hI.lt m b' k1) (fun e' => e (hI.inj n m q (isSome_of hb) (isSome_of hm) hro hq (e' ▸ k1)).symm))
  · intro k m b hk' hm'
    rw [hst] at hk' hm'
    have f : ∀ x, (hget (hset st.heap n ⟨bk.cells.set o (.b h'), bk.ty, bk.kd⟩) x).isSome = true → (hget st.heap x).isSome = true := fun x hx => by
      rcases isSome_hset hx with rfl | hx
      · exact isSome_of hb
      · exact hx
    exact hI.inj k m b (f k hk') (f m hm')
  · rw [hnx, hrs]; exact hI.fresh
  · intro m b hm; exact Nat.lt_of_lt_of_le (hI.lt m b hm) hk.size
  · rw [hnx, hrs]; exact hI.rlt
  · intro b hb hn
    exact hk.block hb (fun e => by have := hn n (e ▸ hq); rw [hro] at this; cases this)
  · exact hk.out.os
  · exact hk.out.tape
  · exact hk.out.output
theorem free_lk {kd : Kd} {l : List C} {o : Nat} {c : C} (h : (bif kd.free then lkL l o else none) = some c) : kd.free = true ∧ lkL l o = some c := by
  cases hf : kd.free
  · rw [hf] at h; cases h
  · rw [hf] at h; exact ⟨rfl, h⟩
theorem flagA_ok {g : Sg} {n o pv ph : Nat} {xa : List A} {st st' : St} {v : V} (h : flagA n o pv ph xa st = some (v, st')) (hg : Good U g st') :
    Good U g st ∧ ∃ (hb rv : A), v = .w (.c (.i .i64 rv)) ∧ rv.val g = U pv (xa.map (A.val g)) ∧ (hget st.heap n).isSome = true ∧ (∀ r w q, Inv g r st w → r n = some q → r.ro n = false) ∧
      ∀ r w, Inv g r st w → ∀ q, r n = some q → Fl q (r.f n + o) (ieq (hb.val g) 1) w ∧ ∀ w', FlW q (r.f n + o) (ieq (hb.val g) 1 || ieq (U ph (xa.map (A.val g))) 1) w w' → Inv g r st' w' ∧ Ext r w r w' := by
  unfold flagA at h
  split at h
  · cases h
  · rename_i bk hbk
    split at h
    · rename_i hb hl
      obtain ⟨hfr, hl⟩ := free_lk hl
      split at h
      rename_i rv st1 h1
      split at h
      rename_i rh st2 h2
      split at h
      rename_i h' st3 h3
      cases h
      have hg3 : Good U g st3 := ⟨hg.defs, hg.cs, hg.ci, hg.rg, hg.ok⟩
      obtain ⟨g2, s3, e3⟩ := orA_ok h3 hg3
      obtain ⟨g1, s2, e2⟩ := hitA_ok h2 g2
      obtain ⟨g0, s1, e1⟩ := valA_ok h1 g1
      have hs := (s1.trans s2).trans s3
      refine ⟨g0, hb, rv, rfl, e1, isSome_of hbk, fun r w q hI hq => ((hI.holds n bk q hbk hq).free hfr).ro, fun r w hI q hq => ?_⟩
      obtain ⟨k1, k2⟩ := flag_mem (h' := h') (st' := { st3 with heap := hset st3.heap n ⟨bk.cells.set o (.b h'), bk.ty, bk.kd⟩ }) hbk hfr hl hI hq (by rw [hs.heap]) hs.next hs.resv
      refine ⟨k1, fun w' hk => k2 w' ?_⟩
      rw [e3, e2]; exact hk
    · cases h

/-! ### Each call -/
abbrev Said (g : Sg) (f : FuncId) (vs : List Value) (st' : St) (v : V) (r : Rho) (w : World) : Prop :=
  Calls Try.prog f ⟨vs⟩ w fun e w' => ∃ r' u, e = .returned u ∧ v.Den g r' u ∧ Inv g r' st' w' ∧ Ext r w r' w'
theorem flag_call {g : Sg} {f : FuncId} {n o pv ph : Nat} {xa : List A} {st st' : St} {v : V} {vs : List Value} (h : flagA n o pv ph xa st = some (v, st')) (hg : Good U g st') :
    Good U g st ∧ ∀ r w x, Inv g r st w → V.Den g r (.w (.c (.p n o))) x → (inK .i64 (U pv (xa.map (A.val g)))) →
      (∀ q o hb, (r n = some q ∧ ∀ m, (hget st.heap m).isSome = true → r m = some q → m = n) → Fl q o hb w → Calls Try.prog f ⟨.pointer (some ⟨q, o, none⟩) :: vs⟩ w fun e w' => e = .returned (.int .i64 (U pv (xa.map (A.val g)))) ∧ FlW q o (hb || ieq (U ph (xa.map (A.val g))) 1) w w') →
      Said g f (x :: vs) st' v r w := by
  obtain ⟨h1, hb, rv, rfl, e1, hsm, hro, h2⟩ := flagA_ok h hg
  refine ⟨h1, fun r w x hI hx hin hC => ?_⟩
  obtain ⟨q, hq, rfl⟩ := den_p hx
  obtain ⟨hF, hK⟩ := h2 r w hI q hq
  refine (hC q _ _ ⟨hq, fun m hm hmq => (hI.inj n m q hsm hm (hro r w q hI hq) hq hmq).symm⟩ hF).mono fun e w' hp => ?_
  obtain ⟨rfl, hk⟩ := hp
  obtain ⟨k1, k2⟩ := hK w' hk
  exact ⟨r, _, rfl, e1 ▸ mk_i r (by rw [e1]; exact hin), k1, k2⟩
theorem sat_i64 (a : Int) : inK .i64 (satv a) := inK_i64.2 (by have := satv_lo a; have := satv_hi a; omega)
theorem side_i64 (v : Int) : inK .i64 (sideOf v) := inK_i64.2 (by have := side_bd v; omega)
theorem divv_i64 (v d : Int) : inK .i64 (divv v d) := by
  unfold divv; split
  · exact side_i64 v
  · exact sat_i64 _
def satS (args : List V) (st : St) : Option (V × St) := match args with
  | [.w (.c (.p n o)), .w (.c (.i .i64 a))] => flagA n o 0 1 [a] st
  | _ => none
def clampS (args : List V) (st : St) : Option (V × St) := match args with
  | [.w (.c (.p n o)), .w (.c (.i .i64 a)), .w (.c (.i .i64 b)), .w (.c (.i .i64 c))] => flagA n o 10 11 [a, b, c] st
  | _ => none
def subS (args : List V) (st : St) : Option (V × St) := match args with
  | [.w (.c (.p n o)), .w (.c (.i .i64 a)), .w (.c (.i .i64 b))] => flagA n o 8 9 [a, b] st
  | _ => none
def mulS (args : List V) (st : St) : Option (V × St) := match args with
  | [.w (.c (.p n o)), .w (.c (.i .i64 a)), .w (.c (.i .i64 b)), .w (.c (.i .i64 (.k (.ofNat s))))] => bif Nat.ble s 120 then flagA n o 2 3 [a, b, .k (.ofNat s)] st else none
  | _ => none
def divS (args : List V) (st : St) : Option (V × St) := match args with
  | [.w (.c (.p n o)), .w (.c (.i .i64 a)), .w (.c (.i .i64 b)), .w (.c (.i .i64 (.k (.ofNat s))))] => bif Nat.ble s 66 then flagA n o 4 5 [a, b, .k (.ofNat s)] st else none
  | _ => none
def muldivS (args : List V) (st : St) : Option (V × St) := match args with
  | [.w (.c (.p n o)), .w (.c (.i .i64 a)), .w (.c (.i .i64 b)), .w (.c (.i .i64 d))] => flagA n o 6 7 [a, b, d] st
  | _ => none
def sqrtS (args : List V) (st : St) : Option (V × St) := match args with
  | [.w (.c (.p n o)), .w (.c (.i .i64 a))] => flagA n o 30 31 [a] st
  | _ => none
theorem sqw_i64 (a : Int) : inK .i64 (sqwF a) := inK_i64.2 (by have := sqw_bd a; rw [sqwF_eq]; omega)
def absS (args : List V) (st : St) : Option (V × St) := match args with
  | [.w (.c (.i .i64 a))] => (match absA a st with | (r, st') => some (.w (.c (.i .i64 r)), st'))
  | _ => none
section
variable {g : Sg}
abbrev CaseOk (g : Sg) (f : FuncId) (S : List V → St → Option (V × St)) : Prop := ∀ args st v st', S args st = some (v, st') → Good U g st' →
  Good U g st ∧ ∀ r w vs, Inv g r st w → VL g r args vs → Said g f vs st' v r w
theorem sat_case : CaseOk g 24 satS := fun args st v st' h hg => by
  unfold satS at h
  split at h
  · rename_i n o a
    refine ⟨(flag_call (f := 0) (vs := []) h hg).1, fun r w vs hI hv => ?_⟩
    match vs, hv with
    | [x, y], ⟨hx, hy, _⟩ =>
      obtain rfl := den_i hy
      refine (flag_call h hg).2 r w x hI hx (sat_i64 _) fun q o hb _ hF => ?_
      simp only [U, List.map, ieq_b2i]
      exact sat_any q o _ hb w hF
  · cases h
theorem clamp_case : CaseOk g 22 clampS := fun args st v st' h hg => by
  unfold clampS at h
  split at h
  · rename_i n o a b c
    refine ⟨(flag_call (f := 0) (vs := []) h hg).1, fun r w vs hI hv => ?_⟩
    match vs, hv with
    | [x, y, z, u], ⟨hx, hy, hz, hu, _⟩ =>
      have i1 := den_in hy
      have i2 := den_in hz
      have i3 := den_in hu
      obtain rfl := den_i hy
      obtain rfl := den_i hz
      obtain rfl := den_i hu
      refine (flag_call h hg).2 r w x hI hx (by simp only [U, List.map]; unfold clampv; (repeat' split) <;> assumption) fun q o hb _ hF => ?_
      simp only [U, List.map, ieq_b2i]
      exact clamp_any q o _ _ _ hb w hF
  · cases h
theorem sub_case : CaseOk g 28 subS := fun args st v st' h hg => by
  unfold subS at h
  split at h
  · rename_i n o a b
    refine ⟨(flag_call (f := 0) (vs := []) h hg).1, fun r w vs hI hv => ?_⟩
    match vs, hv with
    | [x, y, z], ⟨hx, hy, hz, _⟩ =>
      obtain rfl := den_i hy
      obtain rfl := den_i hz
      refine (flag_call h hg).2 r w x hI hx (sat_i64 _) fun q o hb _ hF => ?_
      simp only [U, List.map, ieq_b2i, ← Bool.or_assoc]
      exact sub_any q o _ _ hb w hF
  · cases h
theorem mul_case : CaseOk g 30 mulS := fun args st v st' h hg => by
  unfold mulS at h
  split at h
  · rename_i n o a b s
    rw [nble, Bool.cond_decide] at h
    split at h
    · rename_i hs
      refine ⟨(flag_call (f := 0) (vs := []) h hg).1, fun r w vs hI hv => ?_⟩
      match vs, hv with
      | [x, y, z, u], ⟨hx, hy, hz, hu, _⟩ =>
        obtain rfl := den_i hy
        obtain rfl := den_i hz
        obtain rfl := den_i hu
        refine (flag_call h hg).2 r w x hI hx (sat_i64 _) fun q o hb _ hF => ?_
        simp only [U, List.map, ieq_b2i, ← Bool.or_assoc]
        exact mul_fx q o _ _ s hb w hF hs
    · cases h
  · cases h
theorem div_case : CaseOk g 32 divS := fun args st v st' h hg => by
  unfold divS at h
  split at h
  · rename_i n o a b s
    rw [nble, Bool.cond_decide] at h
    split at h
    · rename_i hs
      refine ⟨(flag_call (f := 0) (vs := []) h hg).1, fun r w vs hI hv => ?_⟩
      match vs, hv with
      | [x, y, z, u], ⟨hx, hy, hz, hu, _⟩ =>
        obtain rfl := den_i hy
        obtain rfl := den_i hz
        obtain rfl := den_i hu
        refine (flag_call h hg).2 r w x hI hx (divv_i64 _ _) fun q o hb _ hF => ?_
        simp only [U, List.map, ieq_b2i, ← Bool.or_assoc]
        exact div_fx q o _ _ s hb w hF hs
    · cases h
  · cases h
theorem muldiv_case : CaseOk g 34 muldivS := fun args st v st' h hg => by
  unfold muldivS at h
  split at h
  · rename_i n o a b d
    refine ⟨(flag_call (f := 0) (vs := []) h hg).1, fun r w vs hI hv => ?_⟩
    match vs, hv with
    | [x, y, z, u], ⟨hx, hy, hz, hu, _⟩ =>
      obtain rfl := den_i hy
      obtain rfl := den_i hz
      obtain rfl := den_i hu
      refine (flag_call h hg).2 r w x hI hx (divv_i64 _ _) fun q o hb _ hF => ?_
      simp only [U, List.map, ieq_b2i, ← Bool.or_assoc]
      exact muldiv_fx q o _ _ _ hb w hF
  · cases h
theorem sqrt_case : CaseOk g 117 sqrtS := fun args st v st' h hg => by
  unfold sqrtS at h
  split at h
  · rename_i n o a
    refine ⟨(flag_call (f := 0) (vs := []) h hg).1, fun r w vs hI hv => ?_⟩
    match vs, hv with
    | [x, y], ⟨hx, hy, _⟩ =>
      obtain rfl := den_i hy
      refine (flag_call h hg).2 r w x hI hx (sqw_i64 _) fun q o hb _ hF => ?_
      simp only [U, List.map, ieq_b2i, sqwF_eq]
      exact rsqrt q o _ hb w hF
  · cases h
theorem absv_i64 (a : Int) : inK .i64 (absv a) := by
  unfold absv; rw [inK_i64]; (repeat' split) <;> omega
theorem abs_case : CaseOk g 37 absS := fun args st v st' h hg => by
  unfold absS at h
  split at h
  · rename_i a
    split at h
    rename_i rv st1 happ
    cases h
    obtain ⟨h1, h2, h3⟩ := absA_ok happ hg
    refine ⟨h1, fun r w vs hI hv => ?_⟩
    match vs, hv with
    | [x], ⟨hx, _⟩ =>
      obtain rfl := den_i hx
      refine (abs_any (a.val g) w).mono fun e w' hp => ?_
      obtain ⟨rfl, rfl⟩ := hp
      exact ⟨r, _, rfl, (by have h3 : rv.val g = absv (a.val g) := h3; rw [← h3]; exact mk_i r (by rw [h3]; exact absv_i64 _)), hI.same h2, Ext.refl _ _⟩
  · cases h
end
end
end Go.Proofs.Ytdleeeahonfnkaa.SX

/- SxN -/
namespace Go.Proofs.Ytdleeeahonfnkaa.SX
open Go Go.RowKit
noncomputable section
section
variable {g : Sg}
/-- The whole numbers that stand in cells. -/
def intsC : List C → Option (List A)
  | [] => some []
  | .i .i64 a :: r => match intsC r with
    | some l => some (a :: l)
    | none => none
  | _ :: _ => none
theorem intsC_ok {r : Rho} : ∀ {l : List C} {xa : List A} {vs : List Value}, intsC l = some xa → DL g r l vs → ∀ i, i < xa.length → vs[i]? = some (.int .i64 ((xa.map (A.val g)).getD i 0)) ∧ inK .i64 ((xa.map (A.val g)).getD i 0)
  | [], xa, vs, h, _, i, hi => by simp [intsC] at h; subst h; simp at hi
  | .i k a :: l, xa, vs, h, hD, i, hi => by
    cases k <;> simp only [intsC] at h <;> try cases h
    split at h
    · rename_i m hm
      cases h
      obtain ⟨v, vs, rfl, h1, h2⟩ := hD.cons_inv
      cases i with
      | zero =>
        refine ⟨?_, den_in (r := r) h1⟩
        have := den_i (r := r) (g := g) h1
        subst this; rfl
      | succ i =>
        obtain ⟨k1, k2⟩ := intsC_ok hm h2 i (by simpa using hi)
        exact ⟨by simpa using k1, by simpa using k2⟩
    · cases h
  | .b _ :: _, _, _, h, _, _, _ => by simp [intsC] at h
  | .p _ _ :: _, _, _, h, _, _, _ => by simp [intsC] at h
  | .pn :: _, _, _, h, _, _, _ => by simp [intsC] at h
  | .s _ _ _ _ :: _, _, _, h, _, _, _ => by simp [intsC] at h
  | .sn :: _, _, _, h, _, _, _ => by simp [intsC] at h
  | .so _ _ _ _ :: _, _, _, h, _, _, _ => by simp [intsC] at h
  | .sz _ :: _, _, _, h, _, _, _ => by simp [intsC] at h
  | .sx _ _ :: _, _, _, h, _, _, _ => by simp [intsC] at h
theorem intsC_len : ∀ {l : List C} {xa : List A}, intsC l = some xa → xa.length = l.length
  | [], xa, h => by simp [intsC] at h; subst h; rfl
  | .i k a :: l, xa, h => by
    cases k <;> simp only [intsC] at h <;> try cases h
    split at h
    · rename_i m hm
      cases h
      simp [intsC_len hm]
    · cases h
  | .b _ :: _, _, h => by simp [intsC] at h
  | .p _ _ :: _, _, h => by simp [intsC] at h
  | .pn :: _, _, h => by simp [intsC] at h
  | .s _ _ _ _ :: _, _, h => by simp [intsC] at h
  | .sn :: _, _, h => by simp [intsC] at h
  | .so _ _ _ _ :: _, _, h => by simp [intsC] at h
  | .sz _ :: _, _, h => by simp [intsC] at h
  | .sx _ _ :: _, _, h => by simp [intsC] at h
/-- A slice of whole numbers, xa it lies. -/
def intsAt (heap : List (Nat × Bk)) (n o l : Nat) : Option (List A) := match hget heap n with
  | some bk => match takeN (bk.cells.drop o) l with
    | some m => intsC m
    | none => none
  | none => none
theorem intsAt_ok {st : St} {n o l : Nat} {xa : List A} (h : intsAt st.heap n o l = some xa) {r : Rho} {w : World} (hI : Inv g r st w) {q0 : Nat} (hq0 : r n = some q0) :
    xa.length = l ∧ (hget st.heap n).isSome = true ∧ ∃ q, r n = some q ∧ q < w.heap.size ∧ Ints w q (r.f n + o) l (fun i => (xa.map (A.val g)).getD i 0) := by
  unfold intsAt at h
  split at h
  · rename_i bk hbk
    split at h
    · rename_i m hm
      obtain ⟨rfl, hl⟩ := takeN_take hm
      have hlen := intsC_len h
      have hlen : xa.length = l := by rw [hlen]; simp at hl ⊢; omega
      have hB := hI.holds n bk q0 hbk hq0
      obtain ⟨vs, hD, hw⟩ := hB.read
      refine ⟨hlen, isSome_of hbk, q0, hq0, hI.lt n q0 hq0, ⟨fun i hi => ?_⟩⟩
      obtain ⟨k1, _⟩ := intsC_ok h ((hD.drop o).take l) i (by omega)
      rw [Nat.add_assoc]
      refine hw (o + i) _ ?_
      rw [← k1, List.getElem?_take, if_pos hi, List.getElem?_drop]
    · cases h
  · cases h
theorem rnd_zero (v : Int) : rnd v 0 = v := by
  unfold rnd withSign
  have : rq v.natAbs 0 = v.natAbs := by unfold rq halfOf; simp
  rw [this]
  by_cases h : v < 0 <;> simp [h] <;> omega
theorem sumS_cons (a : Int) (l : List Int) : ∀ n, sumS (fun i => (a :: l).getD i 0) (n + 1) = sumS (fun i => l.getD i 0) n + satv a
  | 0 => by simp [sumS]
  | n + 1 => by
    rw [sumS, sumS_cons a l n, sumS]
    simp only [List.getD_cons_succ]
    omega
theorem sumS_list : ∀ (l : List Int), sumS (fun i => l.getD i 0) l.length = sumL l
  | [] => rfl
  | a :: l => by rw [List.length_cons, sumS_cons, sumS_list l]; rfl
theorem anyS_cons (a : Int) (l : List Int) : ∀ n, anyS (fun i => (a :: l).getD i 0) (n + 1) = (anyS (fun i => l.getD i 0) n || sath a)
  | 0 => by simp [anyS]
  | n + 1 => by
    rw [anyS, anyS_cons a l n, anyS]
    simp only [List.getD_cons_succ]
    cases anyS (fun i => l.getD i 0) n <;> cases sath a <;> simp
theorem anyS_list : ∀ (l : List Int), anyS (fun i => l.getD i 0) l.length = anyL l
  | [] => rfl
  | a :: l => by rw [List.length_cons, anyS_cons, anyS_list l]; rfl
def addS (args : List V) (st : St) : Option (V × St) := match args with
  | [.w (.c (.p n o)), .w (.c x)] => (match slOf x with
    | some (m, mo, l) => bif Nat.beq m n then none else bif Nat.ble l 9223372036854775807 then (match intsAt st.heap m mo l with
      | some xa => flagA n o 14 15 xa st
      | none => none) else none
    | none => none)
  | _ => none
theorem add_case : CaseOk g 26 addS := fun args st v st' h hg => by
  unfold addS at h
  split at h
  · rename_i n o x
    split at h
    · rename_i m mo l hsl
      rw [nbeq, nble, Bool.cond_decide, Bool.cond_decide] at h
      split at h
      · cases h
      · rename_i hmn
        split at h
        · rename_i hl
          split at h
          · rename_i xa has
            refine ⟨(flag_call (f := 0) (vs := []) h hg).1, fun r w vs hI hv => ?_⟩
            match vs, hv with
            | [x, y], ⟨hx, hy, _⟩ =>
              obtain ⟨q', c', hq', rfl⟩ := den_sl hsl hy
              obtain ⟨e1, sm, q1, k1, k2, k3⟩ := intsAt_ok has hI hq'
              rw [hq'] at k1; cases k1
              refine (flag_call h hg).2 r w x hI hx (sat_i64 _) fun q o hb hq hF => ?_
              have hc := add_fx q o q' _ l c' _ hb w hF hl k2 (fun e => hmn (hq.2 m sm (e ▸ hq'))) k3
              have e2 := sumS_list (xa.map (A.val g))
              have e3 := anyS_list (xa.map (A.val g))
              rw [List.length_map, e1] at e2 e3
              rw [e2, e3, rnd_zero] at hc
              simp only [U, ieq_b2i, ← Bool.or_assoc]
              exact hc
          · cases h
        · cases h
    · cases h
  · cases h

/-! ### Wide numbers -/
/-- The number that two parts stand for. -/
def joinA (h l : A) (st : St) : A × St := match h, l with
  | .x i, .x j => (match getD st i, getD st j with
    | some (.u 21, [z]), some (.u 22, [z']) => if z = z' then (z, st) else app U (.u 23) [.x i, .x j] st
    | _, _ => app U (.u 23) [.x i, .x j] st)
  | h, l => app U (.u 23) [h, l] st
theorem joinA_ok {h l r : A} {st st' : St} (he : joinA h l st = (r, st')) (hg : Good U g st') :
    Good U g st ∧ Same st st' ∧ r.val g = h.val g * 18446744073709551616 + l.val g := by
  have gen : ∀ h l : A, app U (.u 23) [h, l] st = (r, st') → Good U g st ∧ Same st st' ∧ r.val g = h.val g * 18446744073709551616 + l.val g := fun h l he => by
    obtain ⟨h1, h2, h3⟩ := app_ok he hg
    exact ⟨h1, h2, h3⟩
  unfold joinA at he
  split at he
  · rename_i i j
    split at he
    · rename_i z z' hi hj
      split at he
      · rename_i hc
        subst hc
        cases he
        refine ⟨hg, Same.refl _, ?_⟩
        have e1 := hg.defs _ _ _ hi
        have e2 := hg.defs _ _ _ hj
        simp only [mean, List.map, U] at e1 e2
        show r.val g = g i * 18446744073709551616 + g j
        rw [e1, e2]
        unfold wh wl; omega
      · exact gen _ _ he
    · exact gen _ _ he
  · exact gen _ _ he
/-- A number in its two parts. -/
def splitA (z : A) (st : St) : W × St := match app U (.u 21) [z] st with
  | (h, st1) => match app U (.u 22) [z] st1 with
    | (l, st2) => (.agg [.i .i64 h, .i .u64 l], st2)
theorem wide_in {z : Int} (h : InW z) : inK .i64 (wh z) ∧ inK .u64 (wl z) := by
  have h1 := h.lo
  have h2 := h.hi
  unfold wh wl
  rw [inK_i64, inK_u64]
  omega
theorem splitA_ok {z : A} {x : W} {st st' : St} (he : splitA z st = (x, st')) (hg : Good U g st') :
    Good U g st ∧ Same st st' ∧ (InW (z.val g) → ∀ r, x.Den g r (Wv (z.val g))) := by
  unfold splitA at he
  split at he
  rename_i h st1 h1
  split at he
  rename_i l st2 h2
  cases he
  obtain ⟨g1, s1, e1⟩ := app_ok h2 hg
  obtain ⟨g0, s0, e0⟩ := app_ok h1 g1
  refine ⟨g0, s0.trans s1, fun hin r => ?_⟩
  obtain ⟨k1, k2⟩ := wide_in hin
  have e0 : h.val g = wh (z.val g) := e0
  have e1 : l.val g = wl (z.val g) := e1
  refine ⟨[.int .i64 (wh (z.val g)), .int .u64 (wl (z.val g))], rfl, DL.cons ?_ (DL.cons ?_ DL.nil)⟩
  · have := mk_i r (k := .i64) (a := h) (g := g) (by rw [e0]; exact k1)
    rw [e0] at this; exact this
  · have := mk_i r (k := .u64) (a := l) (g := g) (by rw [e1]; exact k2)
    rw [e1] at this; exact this
/-- Two parts that come in: the number, within 128 bits. -/
theorem wide_arg {h l : A} {r : Rho} {v : Value} (hd : V.Den g r (.w (.agg [.i .i64 h, .i .u64 l])) v) : v = Wv (h.val g * 18446744073709551616 + l.val g) ∧ InW (h.val g * 18446744073709551616 + l.val g) := by
  obtain ⟨vs, rfl, hD⟩ := den_agg hd
  obtain ⟨a, vs, rfl, h1, hD⟩ := hD.cons_inv
  obtain ⟨b, vs, rfl, h2, hD⟩ := hD.cons_inv
  obtain rfl := hD.nil_inv
  have i1 := inK_i64.1 (den_in (r := r) (v := a) h1)
  have i2 := inK_u64.1 (den_in (r := r) (v := b) h2)
  obtain rfl := den_i (r := r) (v := a) h1
  obtain rfl := den_i (r := r) (v := b) h2
  refine ⟨?_, ⟨by omega, by omega⟩⟩
  have e1 : wh (h.val g * 18446744073709551616 + l.val g) = h.val g := by unfold wh; omega
  have e2 : wl (h.val g * 18446744073709551616 + l.val g) = l.val g := by unfold wl; omega
  show Value.agg #[_, _] = .agg #[_, _]
  rw [e1, e2]
theorem below_mem {r : Rho} {st : St} {w w' : World} (hI : Inv g r st w) (hb : Below w.heap.size w w') : Inv g r st w' ∧ Ext r w r w' :=
  ⟨⟨fun n bk b hn h1 => (hI.holds n bk b hn h1).world (hb.block b (hI.lt n b h1)), hI.inj, hI.fresh, fun n b h => Nat.lt_of_lt_of_le (hI.lt n b h) hb.size, hI.rlt, hI.nobar, hI.free⟩,
    ⟨Sub.refl _, fun k _ h h2 => .inl ⟨k, h, h2⟩, hb.size, fun b hlt _ => hb.block b hlt, hb.os, hb.tape, hb.output, rfl⟩⟩
def wmulS (args : List V) (st : St) : Option (V × St) := match args with
  | [.w (.c (.i .i64 a)), .w (.c (.i .i64 b))] => (match app U (.u 20) [a, b] st with
    | (z, st1) => match splitA z st1 with
      | (x, st2) => some (.w x, st2))
  | _ => none
theorem mul_inW {a b : Int} (ha : inK .i64 a) (hb : inK .i64 b) : InW (a * b) := by
  rw [inK_i64] at ha hb
  have h1 : (a * b).natAbs ≤ 9223372036854775808 * 9223372036854775808 := by
    rw [Int.natAbs_mul]
    exact Nat.mul_le_mul (by omega) (by omega)
  exact ⟨by omega, by omega⟩
theorem wmul_case : CaseOk g 84 wmulS := fun args st v st' h hg => by
  unfold wmulS at h
  split at h
  · rename_i a b
    split at h
    rename_i z st1 h1
    split at h
    rename_i x st2 h2
    cases h
    obtain ⟨g1, s1, e1⟩ := splitA_ok h2 hg
    obtain ⟨g0, s0, e0⟩ := app_ok h1 g1
    refine ⟨g0, fun r w vs hI hv => ?_⟩
    match vs, hv with
    | [p, q], ⟨hx, hy, _⟩ =>
      have i1 := den_in hx
      have i2 := den_in hy
      obtain rfl := den_i hx
      obtain rfl := den_i hy
      have e0 : z.val g = a.val g * b.val g := e0
      refine (wmul_any (a.val g) (b.val g) w (inK_i64.1 i1).1 (inK_i64.1 i1).2 (inK_i64.1 i2).1 (inK_i64.1 i2).2).mono fun e w' hp => ?_
      obtain ⟨rfl, hb⟩ := hp
      obtain ⟨k1, k2⟩ := below_mem (hI.same (s0.trans s1)) hb
      exact ⟨r, _, rfl, e0 ▸ e1 (by rw [e0]; exact mul_inW i1 i2) r, k1, k2⟩
  · cases h
def isK : A → Bool := fun _ => false
def wrootS (args : List V) (st : St) : Option (V × St) := match args with
  | [.w (.agg [.i .i64 h, .i .u64 l])] => (match joinA h l st with
    | (z, st1) => bif isK z then none else (match app U (.u 26) [z] st1 with
      | (a, st2) => match app U (.u 27) [z] st2 with
        | (b, st3) => some (.tup [.c (.i .i64 a), .c (.b b)], st3)))
  | _ => none
theorem root_top (n : Nat) (h : n ≤ 85070591730234615856620279821087277056) : rootN n ≤ 9223372036854775807 := by
  obtain ⟨h1, h2⟩ := isq_spec n
  have h3 : isq n ≤ 9223372036854775807 := isq_le (by omega)
  unfold rootN
  split
  · rename_i h4
    rcases Nat.lt_or_ge (isq n) 9223372036854775807 with h5 | h5
    · omega
    · have : isq n = 9223372036854775807 := by omega
      rw [this] at h4
      omega
  · omega
theorem root_i64 (z : Int) : inK .i64 (U 26 [z]) := by
  simp only [U, rootF_eq]
  unfold rootOk
  rw [inK_i64, ile_iff, ile_iff, ← Bool.decide_and, Bool.cond_decide]
  split
  · rename_i h
    obtain ⟨h1, h2⟩ := h
    have := root_top z.toNat (by omega)
    omega
  · omega
theorem wroot_case : CaseOk g 80 wrootS := fun args st v st' h hg => by
  unfold wrootS at h
  split at h
  · rename_i p q
    split at h
    rename_i z st1 h1
    cases hz : isK z
    rotate_left
    · rw [hz] at h; cases h
    rw [hz] at h
    rw [cond_false] at h
    split at h
    rename_i a st2 h2
    split at h
    rename_i b st3 h3
    cases h
    obtain ⟨g2, s2, e2⟩ := app_ok h3 hg
    obtain ⟨g1, s1, e1⟩ := app_ok h2 g2
    obtain ⟨g0, s0, e0⟩ := joinA_ok h1 g1
    refine ⟨g0, fun r w vs hI hv => ?_⟩
    match vs, hv with
    | [x], ⟨hx, _⟩ =>
      obtain ⟨rfl, hin⟩ := wide_arg hx
      rw [← e0] at hin ⊢
      have hres : ∀ c w', Below w.heap.size w w' → c = .tuple #[.int .i64 (U 26 [z.val g]), .bool (rootOk (z.val g))] → ∃ r' u, Ending.returned c = .returned u ∧ V.Den g r' (.tup [.c (.i .i64 a), .c (.b b)]) u ∧ Inv g r' st' w' ∧ Ext r w r' w' := by
        intro c w' hb hc
        obtain ⟨k1, k2⟩ := below_mem (hI.same ((s0.trans s1).trans s2)) hb
        refine ⟨r, c, rfl, ?_, k1, k2⟩
        subst hc
        have e1 : a.val g = U 26 [z.val g] := e1
        have e2 : b.val g = b2i (rootOk (z.val g)) := e2
        refine ⟨[.int .i64 (U 26 [z.val g]), .bool (rootOk (z.val g))], rfl, ?_, ?_, trivial⟩
        · rw [← e1]; exact mk_i r (by rw [e1]; exact root_i64 _)
        · have := mk_b (g := g) r b; rw [e2, ieq_b2i] at this; exact this
      have hok : rootOk (z.val g) = decide (0 ≤ z.val g ∧ z.val g ≤ 85070591730234615856620279821087277056) := by unfold rootOk; rw [ile_iff, ile_iff, ← Bool.decide_and]
      by_cases c1 : 0 ≤ z.val g
      · by_cases c2 : z.val g ≤ 85070591730234615856620279821087277056
        · refine (wroot_any (z.val g) w c1 c2).mono fun e w' hp => ?_
          obtain ⟨rfl, hb⟩ := hp
          exact hres _ w' hb (by rw [hok, decide_eq_true ⟨c1, c2⟩]; simp only [U, rootF_eq, hok, decide_eq_true (show _ ∧ _ from ⟨c1, c2⟩), cond_true])
        · refine (wroot_big (z.val g) w c1 (by omega)).mono fun e w' hp => ?_
          obtain ⟨rfl, hb⟩ := hp
          have hf : decide (0 ≤ z.val g ∧ z.val g ≤ 85070591730234615856620279821087277056) = false := by simp; omega
          exact hres _ w' hb (by rw [hok, hf]; simp only [U, rootF_eq, hok, hf, cond_false])
      · refine (wroot_neg (z.val g) w (by omega)).mono fun e w' hp => ?_
        obtain ⟨rfl, hb⟩ := hp
        have hf : decide (0 ≤ z.val g ∧ z.val g ≤ 85070591730234615856620279821087277056) = false := by simp; omega
        exact hres _ w' hb (by rw [hok, hf]; simp only [U, rootF_eq, hok, hf, cond_false])
  · cases h

/-! ### Sums of wide numbers -/
def joinsA : List C → St → Option (List A × St)
  | [], st => some ([], st)
  | .i .i64 h :: .i .u64 l :: r, st => (match joinA h l st with
    | (z, st1) => match joinsA r st1 with
      | some (m, st2) => some (z :: m, st2)
      | none => none)
  | _, _ => none
theorem joinsA_ok : ∀ {l : List C} {m : List A} {st st' : St}, joinsA l st = some (m, st') → Good U g st' → Good U g st ∧ Same st st' ∧ l.length = 2 * m.length ∧
    ∀ r vs, DL g r l vs → ∀ i, i < m.length → InW ((m.map (A.val g)).getD i 0) ∧ vs[i * 2]? = some (.int .i64 (wh ((m.map (A.val g)).getD i 0))) ∧ vs[i * 2 + 1]? = some (.int .u64 (wl ((m.map (A.val g)).getD i 0)))
  | [], m, st, st', h, hg => by
    simp [joinsA] at h
    obtain ⟨rfl, rfl⟩ := h
    exact ⟨hg, Same.refl _, rfl, fun r vs _ i hi => by simp at hi⟩
  | .i k1 h :: .i k2 l :: rest, m, st, st', hh, hg => by
    have hk : k1 = .i64 ∧ k2 = .u64 := by cases k1 <;> cases k2 <;> first | exact ⟨rfl, rfl⟩ | (simp [joinsA] at hh)
    obtain ⟨rfl, rfl⟩ := hk
    rw [joinsA] at hh
    split at hh
    rename_i z st1 h1
    split at hh
    · rename_i m' st2 h2
      cases hh
      obtain ⟨g1, s1, l1, k⟩ := joinsA_ok h2 hg
      obtain ⟨g0, s0, e0⟩ := joinA_ok h1 g1
      refine ⟨g0, s0.trans s1, by simp [l1]; omega, fun r vs hD i hi => ?_⟩
      obtain ⟨a, vs, rfl, d1, hD⟩ := hD.cons_inv
      obtain ⟨b, vs, rfl, d2, hD⟩ := hD.cons_inv
      cases i with
      | zero =>
        have ha : V.Den g r (.w (.agg [.i .i64 h, .i .u64 l])) (.agg ⟨[a, b]⟩) := ⟨_, rfl, DL.cons d1 (DL.cons d2 DL.nil)⟩
        obtain ⟨e1, e2⟩ := wide_arg ha
        have e1 : Value.agg ⟨[a, b]⟩ = .agg ⟨[.int .i64 (wh (h.val g * 18446744073709551616 + l.val g)), .int .u64 (wl (h.val g * 18446744073709551616 + l.val g))]⟩ := e1
        injection e1 with e1
        injection e1 with e1
        injection e1 with e3 e4
        injection e4 with e4
        simp only [List.map_cons, List.getD_cons_zero, e0]
        exact ⟨e2, by simp [e3], by simp [e4]⟩
      | succ i =>
        obtain ⟨q1, q2, q3⟩ := k r vs hD i (by simpa using hi)
        simp only [List.map_cons, List.getD_cons_succ]
        have a1 : (i + 1) * 2 = i * 2 + 1 + 1 := by omega
        rw [a1]
        exact ⟨q1, by simpa using q2, by simpa using q3⟩
    · cases hh
  | [.i _ _], _, _, _, h, _ => by simp [joinsA] at h
  | .i k _ :: .b _ :: _, _, _, _, h, _ => by cases k <;> simp [joinsA] at h
  | .i k _ :: .p _ _ :: _, _, _, _, h, _ => by cases k <;> simp [joinsA] at h
  | .i k _ :: .pn :: _, _, _, _, h, _ => by cases k <;> simp [joinsA] at h
  | .i k _ :: .s _ _ _ _ :: _, _, _, _, h, _ => by cases k <;> simp [joinsA] at h
  | .i k _ :: .sn :: _, _, _, _, h, _ => by cases k <;> simp [joinsA] at h
  | .i k _ :: .so _ _ _ _ :: _, _, _, _, h, _ => by cases k <;> simp [joinsA] at h
  | .i k _ :: .sz _ :: _, _, _, _, h, _ => by cases k <;> simp [joinsA] at h
  | .i k _ :: .sx _ _ :: _, _, _, _, h, _ => by cases k <;> simp [joinsA] at h
  | .b _ :: _, _, _, _, h, _ => by simp [joinsA] at h
  | .p _ _ :: _, _, _, _, h, _ => by simp [joinsA] at h
  | .pn :: _, _, _, _, h, _ => by simp [joinsA] at h
  | .s _ _ _ _ :: _, _, _, _, h, _ => by simp [joinsA] at h
  | .sn :: _, _, _, _, h, _ => by simp [joinsA] at h
  | .so _ _ _ _ :: _, _, _, _, h, _ => by simp [joinsA] at h
  | .sz _ :: _, _, _, _, h, _ => by simp [joinsA] at h
  | .sx _ _ :: _, _, _, _, h, _ => by simp [joinsA] at h
def waddS (args : List V) (st : St) : Option (V × St) := match args with
  | [.w (.c x)] => (match slOf x with
    | some (n, o, l) => (match hget st.heap n with
      | some bk => (match takeN (bk.cells.drop o) (2 * l) with
        | some m => bif Nat.ble l 9223372036854775807 then (match joinsA m st with
          | some (zs, st1) => (match app U (.u 24) zs st1 with
            | (z, st2) => match app U (.u 25) zs st2 with
              | (b, st3) => match splitA z st3 with
                | (x, st4) => some (.tup [x, .c (.b b)], st4))
          | none => none) else none
        | none => none)
      | none => none)
    | none => none)
  | _ => none
theorem inWB_iff (z : Int) : inWB z = true ↔ InW z := by
  unfold inWB
  rw [ile_iff, ile_iff]
  simp
  exact ⟨fun ⟨h1, h2⟩ => ⟨h1, h2⟩, fun ⟨h1, h2⟩ => ⟨h1, h2⟩⟩
theorem accum_shift (a : Int) (l : List Int) : ∀ k, accum (fun i => (a :: l).getD i 0) (k + 1) = a + accum (fun i => l.getD i 0) k
  | 0 => by simp [accum]
  | k + 1 => by rw [accum, accum_shift a l k, accum]; simp only [List.getD_cons_succ]; omega
/-- Where the sum stops. -/
theorem wsum_spec : ∀ (l : List Int) (c : Int), ∃ m, m ≤ l.length ∧ (∀ k, 0 < k → k ≤ m → InW (c + accum (fun i => l.getD i 0) k)) ∧
    ((m = l.length ∧ wsum c l = some (c + accum (fun i => l.getD i 0) l.length)) ∨ (m < l.length ∧ ¬ InW (c + accum (fun i => l.getD i 0) (m + 1)) ∧ wsum c l = none))
  | [], c => ⟨0, by simp, fun k h1 h2 => by omega, .inl ⟨rfl, by simp [wsum, accum]⟩⟩
  | a :: l, c => by
    cases hb : inWB (c + a)
    · refine ⟨0, by simp, fun k h1 h2 => by omega, .inr ⟨by simp, ?_, by simp [wsum, hb]⟩⟩
      rw [accum_shift]
      simp only [accum, Int.add_zero]
      intro h; rw [(inWB_iff _).2 h] at hb; cases hb
    · obtain ⟨m, h1, h2, h3⟩ := wsum_spec l (c + a)
      have hw : wsum c (a :: l) = wsum (c + a) l := by simp [wsum, hb]
      refine ⟨m + 1, by simp; omega, fun k k1 k2 => ?_, ?_⟩
      · cases k with
        | zero => omega
        | succ k =>
          rw [accum_shift, ← Int.add_assoc]
          rcases Nat.eq_zero_or_pos k with h0 | h0
          · subst h0; simp only [accum, Int.add_zero]; exact (inWB_iff _).1 hb
          · exact h2 k h0 (by omega)
      · rw [hw]
        rcases h3 with ⟨e1, e2⟩ | ⟨e1, e2, e3⟩
        · refine .inl ⟨by simp [e1], ?_⟩
          rw [e2, List.length_cons, accum_shift, Int.add_assoc]
        · refine .inr ⟨by simp; omega, ?_, e3⟩
          rw [accum_shift, ← Int.add_assoc]; exact e2
theorem wadd_case : CaseOk g 81 waddS := fun args st v st' h hg => by
  unfold waddS at h
  split at h
  · rename_i x
    split at h
    · rename_i n o l hsl
      split at h
      · rename_i bk hbk
        split at h
        · rename_i m hm
          rw [nble, Bool.cond_decide] at h
          split at h
          · rename_i hl
            split at h
            · rename_i zs st1 h1
              split at h
              rename_i z st2 h2
              split at h
              rename_i b st3 h3
              split at h
              rename_i x st4 h4
              cases h
              obtain ⟨g3, s3, e3⟩ := splitA_ok h4 hg
              obtain ⟨g2, s2, e2⟩ := app_ok h3 g3
              obtain ⟨g1, s1, e1⟩ := app_ok h2 g2
              obtain ⟨g0, s0, l0, k0⟩ := joinsA_ok h1 g1
              obtain ⟨rfl, hle⟩ := takeN_take hm
              have hzl : zs.length = l := by simp at l0 hle; omega
              refine ⟨g0, fun r w vs hI hv => ?_⟩
              match vs, hv with
              | [y], ⟨hy, _⟩ =>
                obtain ⟨q, c, hq, rfl⟩ := den_sl hsl hy
                have hB := hI.holds n bk q hbk hq
                obtain ⟨vs, hD, hw⟩ := hB.read
                have kk := k0 r _ ((hD.drop o).take (2 * l))
                obtain ⟨mm, m1, m2, m3⟩ := wsum_spec (zs.map (A.val g)) 0
                rw [List.length_map, hzl] at m1 m3
                have hcells : _root_.Go.Proofs.Ytdleeeahonfnkaa.Holds w q (r.f n + o) l (fun i => (zs.map (A.val g)).getD i 0) := by
                  refine ⟨fun i hi => ?_, fun i hi => ?_⟩
                  · have := (kk i (by omega)).2.1
                    rw [List.getElem?_take, if_pos (by omega), List.getElem?_drop] at this
                    rw [Nat.add_assoc]; exact hw (o + i * 2) _ this
                  · have := (kk i (by omega)).2.2
                    rw [List.getElem?_take, if_pos (by omega), List.getElem?_drop] at this
                    rw [Nat.add_assoc, Nat.add_assoc]; exact hw (o + (i * 2 + 1)) _ this
                have hacc : ∀ k, k ≤ mm → InW (accum (fun i => (zs.map (A.val g)).getD i 0) k) := fun k hk => by
                  rcases Nat.eq_zero_or_pos k with h0 | h0
                  · subst h0; exact inW_zero
                  · have := m2 k h0 hk; rwa [Int.zero_add] at this
                refine (wadd_any q (r.f n + o) l c mm _ w hl (hI.lt n q hq) (fun i hi => (kk i (by omega)).1) m1 hacc (by rcases m3 with ⟨e, _⟩ | ⟨_, e, _⟩; exact .inl e; exact .inr (by rwa [Int.zero_add] at e)) hcells).mono fun e w' hp => ?_
                obtain ⟨rfl, hb⟩ := hp
                obtain ⟨k1, k2⟩ := below_mem (hI.same (((s0.trans s1).trans s2).trans s3)) hb
                refine ⟨r, _, rfl, ?_, k1, k2⟩
                have e1 : z.val g = U 24 (zs.map (A.val g)) := e1
                have e2 : b.val g = b2i (wsum 0 (zs.map (A.val g))).isSome := e2
                unfold addRes
                rcases m3 with ⟨f1, f2⟩ | ⟨f1, _, f2⟩
                · rw [if_pos f1]
                  rw [f2] at e2
                  simp only [U, f2, Int.zero_add] at e1
                  refine ⟨[Wv (accum (fun i => (zs.map (A.val g)).getD i 0) l), .bool true], rfl, ?_, ?_, trivial⟩
                  · rw [← e1]; exact e3 (by rw [e1]; exact f1 ▸ hacc mm (Nat.le_refl _)) r
                  · have := mk_b (g := g) r b; rw [e2, ieq_b2i] at this; exact this
                · rw [if_neg (by omega)]
                  rw [f2] at e2
                  simp only [U, f2] at e1
                  refine ⟨[Wv 0, .bool false], rfl, ?_, ?_, trivial⟩
                  · have := e3 (by rw [e1]; exact inW_zero) r; rw [e1] at this; exact this
                  · have := mk_b (g := g) r b; rw [e2, ieq_b2i] at this; exact this
            · cases h
          · cases h
        · cases h
      · cases h
    · cases h
  · cases h
end
end
end Go.Proofs.Ytdleeeahonfnkaa.SX

/- SxP -/
namespace Go.Proofs.Ytdleeeahonfnkaa.SX
open Go Go.RowKit
noncomputable section
abbrev Sum := FuncId → List V → St → Option (V × St)
def one (id : Nat) (S : List V → St → Option (V × St)) : Sum := fun f args st => bif Nat.beq f id then S args st else none
def orS (s t : Sum) : Sum := fun f args st => match s f args st with
  | some r => some r
  | none => t f args st
theorem one_ok {g : Sg} {id : Nat} {S : List V → St → Option (V × St)} (h : CaseOk g id S) : CallOk Try.prog U g (one id S) := fun f args st v st' he hg => by
  unfold one at he
  rw [nbeq, Bool.cond_decide] at he
  split at he
  · rename_i hf; subst hf
    exact h args st v st' he hg
  · cases he
theorem orS_ok {g : Sg} {s t : Sum} (hs : CallOk Try.prog U g s) (ht : CallOk Try.prog U g t) : CallOk Try.prog U g (orS s t) := fun f args st v st' he hg => by
  unfold orS at he
  split at he
  · rename_i r hr; cases he; exact hs f args st v st' hr hg
  · exact ht f args st v st' he hg
def sums : Sum :=
  orS (one 24 satS) <|
  orS (one 22 clampS) <|
  orS (one 28 subS) <|
  orS (one 30 mulS) <|
  orS (one 32 divS) <|
  orS (one 34 muldivS) <|
  orS (one 37 absS) <|
  orS (one 26 addS) <|
  orS (one 117 sqrtS) <|
  orS (one 84 wmulS) <|
  orS (one 81 waddS) <|
  orS (one 80 wrootS) <|
  noSum
theorem sums_ok (g : Sg) : CallOk Try.prog U g sums :=
  orS_ok (one_ok sat_case) <|
  orS_ok (one_ok clamp_case) <|
  orS_ok (one_ok sub_case) <|
  orS_ok (one_ok mul_case) <|
  orS_ok (one_ok div_case) <|
  orS_ok (one_ok muldiv_case) <|
  orS_ok (one_ok abs_case) <|
  orS_ok (one_ok add_case) <|
  orS_ok (one_ok sqrt_case) <|
  orS_ok (one_ok wmul_case) <|
  orS_ok (one_ok wadd_case) <|
  orS_ok (one_ok wroot_case) <|
  noSum_ok

/-! ### Symbols, solved -/
/-- What has been named, the latest first. -/
def defL (st : St) : Nat → List (Nat × Pr × List A)
  | 0 => []
  | n + 1 => match getD st n with
    | some (p, xa) => (n, p, xa) :: defL st n
    | none => defL st n
theorem defL_mem {st : St} {n : Nat} {p : Pr} {xa : List A} (h : getD st n = some (p, xa)) : ∀ {m : Nat}, n < m → (n, p, xa) ∈ defL st m
  | 0, hm => by omega
  | m + 1, hm => by
    unfold defL
    by_cases e : n = m
    · subst e; rw [h]; exact List.mem_cons_self ..
    · have := defL_mem h (m := m) (by omega)
      split
      · exact List.mem_cons_of_mem _ this
      · exact this
/-! ### A law over symbols -/
/-- What comes in: a whole number of a kind, a bool, or cells of these; a slice of so many, each of such cells; a slice of nothing. -/
inductive Ar where
  | one (k : Option IntKind)
  | agg (l : List (Option IntKind))
  | sl (n : Nat) (l : List (Option IntKind))
  | sz
  | sn
  | lo (m : Nat)
def arSize : List Ar → Nat
  | [] => 0
  | .one _ :: r => 1 + arSize r
  | .agg l :: r => l.length + arSize r
  | .sl n l :: r => (repL l n).length + arSize r
  | .sz :: r => arSize r
  | .sn :: r => arSize r
  | .lo _ :: r => 1 + arSize r
def inC (i : Nat) : Option IntKind → St → C × St
  | some k, st => (match app U (.conv k) [.x i] st with | (r, st') => (.i k r, st'))
  | none, st => (.b (.x i), st)
def inCs : Nat → List (Option IntKind) → St → List C × St
  | _, [], st => ([], st)
  | i, k :: l, st => match inC i k st with
    | (c, st1) => match inCs (i + 1) l st1 with
      | (r, st2) => (c :: r, st2)
/-- The p-th of the arguments and those behind it, the symbols from the i-th on; and the memory that they lie in. -/
def inVs : Nat → Nat → List Ar → St → List V × List (Nat × Bk) × St
  | _, _, [], st => ([], [], st)
  | p, i, .one k :: r, st => (match inC i k st with
    | (c, st1) => match inVs (p + 1) (i + 1) r st1 with
      | (q, h, st2) => (.w (.c c) :: q, h, st2))
  | p, i, .agg l :: r, st => (match inCs i l st with
    | (c, st1) => match inVs (p + 1) (i + l.length) r st1 with
      | (q, h, st2) => (.w (.agg c) :: q, h, st2))
  | p, i, .sl n l :: r, st => (match inCs i (repL l n) st with
    | (c, st1) => match inVs (p + 1) (i + (repL l n).length) r st1 with
      | (q, h, st2) => (.w (.c (.so p 0 n 0)) :: q, hset h p ⟨c, 0, .vw⟩, st2))
  | p, i, .sz :: r, st => (match inVs (p + 1) i r st with
      | (q, h, st2) => (.w (.c (.sz p)) :: q, h, st2))
  | p, i, .sn :: r, st => (match inVs (p + 1) i r st with
      | (q, h, st2) => (.w (.c .sn) :: q, h, st2))
  | p, i, .lo m :: r, st => match app U (.conv .i64) [.x i] st with
    | (a, st1) => match app U .max [a, .k m] st1 with
      | (b, st2) => match inVs (p + 1) (i + 1) r st2 with
        | (q, h, st3) => (.w (.c (.sx p b)) :: q, h, st3)
def fitC (g : Sg) (i : Nat) : Option IntKind → Value → Prop
  | some k, v => v = .int k (g i) ∧ inK k (g i)
  | none, v => v = .bool (ieq (g i) 1)
def fitCs (g : Sg) : Nat → List (Option IntKind) → List Value → Prop
  | _, [], [] => True
  | i, k :: l, v :: vs => fitC g i k v ∧ fitCs g (i + 1) l vs
  | _, _, _ => False
/-- A slice that lies in the world. -/
def fitS (g : Sg) (w : World) (i n : Nat) (l : List (Option IntKind)) (v : Value) : Prop :=
  ∃ (b off cap : Nat) (us : List Value), v = .slice (some ⟨b, off, none⟩) n cap ∧ n ≠ 0 ∧ n ≤ cap ∧ b < w.heap.size ∧ fitCs g i (repL l n) us ∧ ∀ j u, us[j]? = some u → w.cell? ⟨b, off + j, none⟩ = some u
/-- The arguments are what the symbols from the i-th on stand for. -/
def fitVs (g : Sg) (w : World) : Nat → List Ar → List Value → Prop
  | _, [], [] => True
  | i, .one k :: r, v :: vs => fitC g i k v ∧ fitVs g w (i + 1) r vs
  | i, .agg l :: r, v :: vs => (∃ us, v = .agg ⟨us⟩ ∧ fitCs g i l us) ∧ fitVs g w (i + l.length) r vs
  | i, .sl n l :: r, v :: vs => fitS g w i n l v ∧ fitVs g w (i + (repL l n).length) r vs
  | i, .sz :: r, v :: vs => (∃ a c, v = .slice (some a) 0 c) ∧ fitVs g w i r vs
  | i, .sn :: r, v :: vs => v = .slice none 0 0 ∧ fitVs g w i r vs
  | i, .lo m :: r, v :: vs => (∃ a n c, v = .slice (some a) n c ∧ m ≤ n ∧ n ≤ 9223372036854775807 ∧ g i = (n : Nat) ∧ n ≠ 0 ∧ a.block < w.heap.size) ∧ fitVs g w (i + 1) r vs
  | _, _, _ => False
theorem wrap_inK {k : IntKind} {n : Int} (h : inK k n) : k.wrap n = n := by
  unfold inK IntKind.min IntKind.max at h
  unfold IntKind.wrap
  cases k <;> simp [IntKind.signed, IntKind.bits] at h ⊢ <;> (try split) <;> omega
theorem inC_ok {g : Sg} {z : Rho} {i : Nat} {k : Option IntKind} {c : C} {st st' : St} (h : inC i k st = (c, st')) (hg : Good U g st') :
    Good U g st ∧ Same st st' ∧ ∀ v, fitC g i k v → c.den g z = some v := by
  cases k with
  | none =>
    cases h
    exact ⟨hg, Same.refl _, fun v hv => by rw [hv]; rfl⟩
  | some k =>
    cases hs : app U (.conv k) [.x i] st with
    | mk r st1 =>
    rw [inC, hs] at h
    cases h
    obtain ⟨h1, h2, h3⟩ := app_ok hs hg
    refine ⟨h1, h2, fun v hv => ?_⟩
    obtain ⟨rfl, hin⟩ := hv
    have e : r.val g = g i := by
      rw [h3]
      show wrapF k (g i) = g i
      rw [wrapF_eq]
      exact wrap_inK hin
    simp only [C.den, e]
    rw [if_pos hin]
theorem inCs_ok {g : Sg} {z : Rho} : ∀ {l : List (Option IntKind)} {i : Nat} {cs : List C} {st st' : St}, inCs i l st = (cs, st') → Good U g st' →
    Good U g st ∧ Same st st' ∧ ∀ vs, fitCs g i l vs → DL g z cs vs
  | [], i, cs, st, st', h, hg => by
    cases h
    exact ⟨hg, Same.refl _, fun vs hv => by cases vs with
      | nil => exact DL.nil
      | cons _ _ => exact hv.elim⟩
  | k :: l, i, cs, st, st', h, hg => by
    unfold inCs at h
    split at h
    rename_i c st1 h1
    split at h
    rename_i r st2 h2
    cases h
    obtain ⟨k1, k2, k3⟩ := inCs_ok h2 hg
    obtain ⟨l1, l2, l3⟩ := inC_ok h1 k1
    refine ⟨l1, l2.trans k2, fun vs hv => ?_⟩
    cases vs with
    | nil => exact hv.elim
    | cons v vs => exact DL.cons (l3 v hv.1) (k3 vs hv.2)
/-- The names, as the arguments are. -/
def Agr (r : Rho) (p : Nat) (vs : List Value) : Prop := ∀ (j : Nat) (a : Addr) (l c : Nat), vs[j]? = some (Value.slice (some a) l c) → (l ≠ 0 → r (p + j) = some a.block ∧ r.k (p + j) = c ∧ r.f (p + j) = a.off ∧ r.ro (p + j) = true) ∧ r.z (p + j) = (a, c)
theorem Agr.tail {r : Rho} {p : Nat} {v : Value} {vs : List Value} (h : Agr r p (v :: vs)) : Agr r (p + 1) vs := fun j a l c hj => by
  have := h (j + 1) a l c (by simpa using hj)
  rwa [show p + 1 + j = p + (j + 1) by omega]
theorem inVs_ok {g : Sg} {w : World} : ∀ {l : List Ar} {p i : Nat} {xs : List V} {hp : List (Nat × Bk)} {st st' : St}, inVs p i l st = (xs, hp, st') → Good U g st' →
    Good U g st ∧ Same st st' ∧ ∀ vs : List Value, fitVs g w i l vs → vs.length = l.length ∧ (∀ (j : Nat) (a : Addr) (n c : Nat), vs[j]? = some (Value.slice (some a) n c) → n ≠ 0 → a.block < w.heap.size) ∧ ∀ r : Rho, Agr r p vs → VL g r xs vs ∧ ∀ n bk, hget hp n = some bk → ∃ b, r n = some b ∧ BkOk g r n b bk w
  | [], p, i, cs, hp, st, st', h, hg => by
    cases h
    exact ⟨hg, Same.refl _, fun vs hv => by cases vs with
      | nil => exact ⟨rfl, fun j a n c h => (by simp at h), fun r _ => ⟨trivial, fun n bk h => by simp [hget] at h⟩⟩
      | cons _ _ => exact hv.elim⟩
  | .one k :: r, p, i, cs, hp, st, st', h, hg => by
    unfold inVs at h
    split at h
    rename_i c st1 h1
    split at h
    rename_i q hh st2 h2
    cases h
    obtain ⟨k1, k2, k3⟩ := inVs_ok h2 hg
    obtain ⟨l1, l2, _⟩ := inC_ok (z := rho0 default) h1 k1
    refine ⟨l1, l2.trans k2, fun vs hv => ?_⟩
    cases vs with
    | nil => exact hv.elim
    | cons v vs =>
      obtain ⟨m1, m2, m3⟩ := k3 vs hv.2
      refine ⟨by simp [m1], fun j a n c hj => ?_, fun r ha => ⟨⟨(inC_ok (z := r) h1 k1).2.2 v hv.1, (m3 r ha.tail).1⟩, (m3 r ha.tail).2⟩⟩
      cases j with
      | zero =>
        simp only [List.getElem?_cons_zero, Option.some.injEq] at hj
        have := hv.1
        rw [hj] at this
        cases k with
        | none => cases this
        | some k => cases this.1
      | succ j => exact m2 j a n c (by simpa using hj)
  | .agg l :: r, p, i, cs, hp, st, st', h, hg => by
    unfold inVs at h
    split at h
    rename_i c st1 h1
    split at h
    rename_i q hh st2 h2
    cases h
    obtain ⟨k1, k2, k3⟩ := inVs_ok h2 hg
    obtain ⟨l1, l2, _⟩ := inCs_ok (z := rho0 default) h1 k1
    refine ⟨l1, l2.trans k2, fun vs hv => ?_⟩
    cases vs with
    | nil => exact hv.elim
    | cons v vs =>
      obtain ⟨⟨us, rfl, hus⟩, hv⟩ := hv
      obtain ⟨m1, m2, m3⟩ := k3 vs hv
      refine ⟨by simp [m1], fun j a n c hj => ?_, fun r ha => ⟨⟨⟨us, rfl, (inCs_ok (z := r) h1 k1).2.2 us hus⟩, (m3 r ha.tail).1⟩, (m3 r ha.tail).2⟩⟩
      cases j with
      | zero => simp at hj
      | succ j => exact m2 j a n c (by simpa using hj)
  | .sl n l :: r, p, i, cs, hp, st, st', h, hg => by
    unfold inVs at h
    split at h
    rename_i c st1 h1
    split at h
    rename_i q hh st2 h2
    cases h
    obtain ⟨k1, k2, k3⟩ := inVs_ok h2 hg
    obtain ⟨l1, l2, _⟩ := inCs_ok (z := rho0 default) h1 k1
    refine ⟨l1, l2.trans k2, fun vs hv => ?_⟩
    cases vs with
    | nil => exact hv.elim
    | cons v vs =>
      obtain ⟨⟨b, off, cap, us, rfl, f1, f2, f3, f4, f5⟩, hv⟩ := hv
      obtain ⟨m1, m2, m3⟩ := k3 vs hv
      refine ⟨by simp [m1], fun j a n' c hj => ?_, fun r ha => ?_⟩
      · cases j with
        | zero =>
          simp only [List.getElem?_cons_zero, Option.some.injEq, Value.slice.injEq] at hj
          obtain ⟨rfl, rfl, rfl⟩ := hj
          exact fun _ => f3
        | succ j => exact m2 j a n' c (by simpa using hj)
      · obtain ⟨e1, e2⟩ := ha 0 ⟨b, off, none⟩ n cap (by simp)
        obtain ⟨e1, e3, e4, e5⟩ := e1 f1
        simp only [Nat.add_zero] at e1 e3 e4 e5
        obtain ⟨m3, m4⟩ := m3 r ha.tail
        refine ⟨⟨?_, m3⟩, fun n' bk hn => ?_⟩
        · have := mk_so (g := g) e1 (o := 0) (l := n) (d := 0) (by omega)
          rw [e3, e4] at this
          exact this
        · rw [hget_hset] at hn
          by_cases e : n' = p
          · subst e
            simp only [if_true, Option.some.injEq] at hn; subst hn
            exact ⟨b, e1, .inl ⟨rfl, e5, us, (inCs_ok (z := r) h1 k1).2.2 us f4, fun j u hu => by rw [e4]; exact f5 j u hu⟩⟩
          · rw [if_neg e] at hn
            exact m4 n' bk hn
  | .sz :: r, p, i, cs, hp, st, st', h, hg => by
    unfold inVs at h
    split at h
    rename_i q hh st2 h2
    cases h
    obtain ⟨k1, k2, k3⟩ := inVs_ok h2 hg
    refine ⟨k1, k2, fun vs hv => ?_⟩
    cases vs with
    | nil => exact hv.elim
    | cons v vs =>
      obtain ⟨⟨a, c, rfl⟩, hv⟩ := hv
      obtain ⟨m1, m2, m3⟩ := k3 vs hv
      refine ⟨by simp [m1], fun j a' n' c' hj => ?_, fun r ha => ⟨⟨?_, (m3 r ha.tail).1⟩, (m3 r ha.tail).2⟩⟩
      · cases j with
        | zero =>
          simp only [List.getElem?_cons_zero, Option.some.injEq, Value.slice.injEq] at hj
          exact fun h0 => absurd hj.2.1.symm h0
        | succ j => exact m2 j a' n' c' (by simpa using hj)
      · obtain ⟨_, e2⟩ := ha 0 a 0 c (by simp)
        simp only [Nat.add_zero] at e2
        show some (Value.slice (some (r.z p).1) 0 (r.z p).2) = _
        rw [e2]
  | .sn :: r, p, i, cs, hp, st, st', h, hg => by
    unfold inVs at h
    split at h
    rename_i q hh st2 h2
    cases h
    obtain ⟨k1, k2, k3⟩ := inVs_ok h2 hg
    refine ⟨k1, k2, fun vs hv => ?_⟩
    cases vs with
    | nil => exact hv.elim
    | cons v vs =>
      obtain ⟨rfl, hv⟩ := hv
      obtain ⟨m1, m2, m3⟩ := k3 vs hv
      refine ⟨by simp [m1], fun j a' n' c' hj => ?_, fun r ha => ⟨⟨rfl, (m3 r ha.tail).1⟩, (m3 r ha.tail).2⟩⟩
      cases j with
      | zero => simp at hj
      | succ j => exact m2 j a' n' c' (by simpa using hj)
  | .lo m :: r, p, i, cs, hp, st, st', h, hg => by
    unfold inVs at h
    split at h
    rename_i x st1 h1
    split at h
    rename_i y st2 h2
    split at h
    rename_i q hh st3 h3
    cases h
    obtain ⟨k1, k2, k3⟩ := inVs_ok h3 hg
    obtain ⟨g2, s2, e2⟩ := app_ok h2 k1
    obtain ⟨g1, s1, e1⟩ := app_ok h1 g2
    refine ⟨g1, (s1.trans s2).trans k2, fun vs hv => ?_⟩
    cases vs with
    | nil => exact hv.elim
    | cons v vs =>
      obtain ⟨⟨a, n, c, rfl, f1, f2, f3, f4, f5⟩, hv⟩ := hv
      obtain ⟨m1, m2, m3⟩ := k3 vs hv
      have ey : y.val g = (n : Int) := by
        have e1 : x.val g = wrapF .i64 (g i) := e1
        have e2 : y.val g = bif ile (m : Int) (x.val g) then x.val g else (m : Int) := e2
        have e3 : x.val g = (n : Int) := by rw [e1, f3, wrapF_eq]; exact wrap_inK (inK_i64.2 (by omega))
        rw [e2, e3, ile_iff, Bool.cond_decide, if_pos (by omega)]
      refine ⟨by simp [m1], fun j a' n' c' hj => ?_, fun r ha => ⟨⟨?_, (m3 r ha.tail).1⟩, (m3 r ha.tail).2⟩⟩
      · cases j with
        | zero =>
          simp only [List.getElem?_cons_zero, Option.some.injEq, Value.slice.injEq] at hj
          obtain ⟨rfl, rfl, rfl⟩ := hj
          exact fun _ => f5
        | succ j => exact m2 j a' n' c' (by simpa using hj)
      · obtain ⟨_, e2⟩ := ha 0 a n c (by simp)
        simp only [Nat.add_zero] at e2
        show C.den g r (.sx p y) = _
        simp only [C.den, ey]
        rw [if_pos ⟨inK_i64.2 (by omega), by omega⟩, e2, Int.toNat_natCast]
theorem fitC_congr {g h : Sg} {i n : Nat} (he : ∀ j, j < n → g j = h j) (hi : i < n) {k : Option IntKind} {v : Value} (hf : fitC g i k v) : fitC h i k v := by
  cases k with
  | none => unfold fitC at *; rw [hf, he i hi]
  | some k => unfold fitC at *; rw [← he i hi]; exact hf
theorem fitCs_congr {g h : Sg} {n : Nat} (he : ∀ j, j < n → g j = h j) : ∀ {l : List (Option IntKind)} {i : Nat} {vs : List Value}, i + l.length ≤ n → fitCs g i l vs → fitCs h i l vs
  | [], i, vs, _, hf => by cases vs with
    | nil => trivial
    | cons _ _ => exact hf.elim
  | k :: l, i, vs, hi, hf => by
    simp at hi
    cases vs with
    | nil => exact hf.elim
    | cons v vs => exact ⟨fitC_congr he (by omega) hf.1, fitCs_congr he (by omega) hf.2⟩
theorem fitVs_congr {g h : Sg} {w : World} {n : Nat} (he : ∀ j, j < n → g j = h j) : ∀ {l : List Ar} {i : Nat} {vs : List Value}, i + arSize l ≤ n → fitVs g w i l vs → fitVs h w i l vs
  | [], i, vs, _, hf => by cases vs with
    | nil => trivial
    | cons _ _ => exact hf.elim
  | .one k :: l, i, vs, hi, hf => by
    simp only [arSize] at hi
    cases vs with
    | nil => exact hf.elim
    | cons v vs => exact ⟨fitC_congr he (by omega) hf.1, fitVs_congr he (by omega) hf.2⟩
  | .agg k :: l, i, vs, hi, hf => by
    simp only [arSize] at hi
    cases vs with
    | nil => exact hf.elim
    | cons v vs =>
      obtain ⟨⟨us, e, hu⟩, hf⟩ := hf
      exact ⟨⟨us, e, fitCs_congr he (by omega) hu⟩, fitVs_congr he (by omega) hf⟩
  | .sl m k :: l, i, vs, hi, hf => by
    simp only [arSize] at hi
    cases vs with
    | nil => exact hf.elim
    | cons v vs =>
      obtain ⟨⟨b, off, cap, us, e, f1, f2, f3, f4, f5⟩, hf⟩ := hf
      exact ⟨⟨b, off, cap, us, e, f1, f2, f3, fitCs_congr he (by omega) f4, f5⟩, fitVs_congr he (by omega) hf⟩
  | .sz :: l, i, vs, hi, hf => by
    cases vs with
    | nil => exact hf.elim
    | cons v vs => exact ⟨hf.1, fitVs_congr he hi hf.2⟩
  | .sn :: l, i, vs, hi, hf => by
    cases vs with
    | nil => exact hf.elim
    | cons v vs => exact ⟨hf.1, fitVs_congr he hi hf.2⟩
  | .lo m :: l, i, vs, hi, hf => by
    simp only [arSize] at hi
    cases vs with
    | nil => exact hf.elim
    | cons v vs =>
      obtain ⟨⟨a, n, c, e, h1, h2, h3, h4⟩, hf⟩ := hf
      exact ⟨⟨a, n, c, e, h1, h2, by rw [← he i (by omega)]; exact h3, h4⟩, fitVs_congr he (by omega) hf⟩
def start (ars : List Ar) : List V × St := match inVs 0 0 ars { st0 with nv := arSize ars } with
  | (xs, h, st) => (xs, { st with heap := h, next := ars.length })
/-- The names of arguments. -/
def rhoOf (vs : List Value) : Rho :=
  ⟨fun n => match vs[n]? with
    | some (.slice (some a) (_ + 1) _) => some a.block
    | _ => none,
   fun n => match vs[n]? with
    | some (.slice (some _) _ c) => c
    | _ => 0,
   fun n => match vs[n]? with
    | some (.slice (some a) _ _) => a.off
    | _ => 0,
   fun _ => true,
   fun n => match vs[n]? with
    | some (.slice (some a) _ c) => (a, c)
    | _ => default,
   fun _ => false⟩
theorem rhoOf_agr (vs : List Value) : Agr (rhoOf vs) 0 vs := fun j a l c hj => by
  have e : 0 + j = j := by omega
  rw [e]
  cases l with
  | zero => simp [rhoOf, hj]
  | succ l => simp [rhoOf, hj]
theorem rhoOf_some {vs : List Value} {n b : Nat} (h : rhoOf vs n = some b) : ∃ a l c, vs[n]? = some (.slice (some a) l c) ∧ l ≠ 0 ∧ a.block = b := by
  simp only [rhoOf] at h
  split at h
  · rename_i a l c hv; cases h; exact ⟨a, l + 1, c, hv, by omega, rfl⟩
  · cases h
/-- It ends in 'true', whatever the symbols stand for. -/
def lawB (ars : List Ar) (r : Option (V × St)) : Bool := match r with
  | some (.w (.c (.b (.k z))), st) => ieq z 1 && (!st.bad && st.cs.isEmpty && (st.ci.isEmpty && (isE st.rg || rgAll st id st.rg))) && wfD (arSize ars) st.nv (defL st st.nv)
  | _ => false
theorem law_true {P : Program} {L : Lk} [LkOk P L] {X : FuncId → Nat} (hN : NamesOk P X) (hmix : P.follows .mixedOrders = true) {f : FuncId} {sum : Sum} (hs : ∀ g, CallOk P U g sum) {mc : FuncId → Bool} {ml : FuncId → Nat} {K d : Nat} {ars : List Ar}
    (h : lawB ars (runPol L U X sum mc ml K d f (start ars).1 (start ars).2) = true) (g0 : Sg) (vs : List Value) (w : World) (hv : fitVs g0 w 0 ars vs) :
    Calls P f ⟨vs⟩ w fun e w' => e = .returned (.bool true) ∧ Below w.heap.size w w' := by
  unfold lawB at h
  split at h
  · rename_i z st' he
    simp only [Bool.and_eq_true] at h
    obtain ⟨⟨h1, ⟨h2, h3⟩, h4, h6⟩, h5⟩ := h
    have h3 : st'.cs = [] := by simpa using h3
    have h4 : st'.ci = [] := by simpa using h4
    obtain ⟨k1, k2⟩ := solve_ok U g0 h5
    generalize hg' : solve U (defL st' st'.nv) g0 = g at *
    have hd : DefsOk U g st' := fun n p xa hn => k1 _ (defL_mem hn (getD_lt hn).1)
    have hci : ∀ c ∈ st'.ci, ciOk g c := fun c hc => (by rw [h4] at hc; cases hc)
    have hrg : ∀ n lo hi, st'.rg.get n = some (lo, hi) → lo ≤ g n ∧ g n ≤ hi := by
      rw [Bool.or_eq_true] at h6
      rcases h6 with h6 | h6
      · rw [isE_eq h6]; exact fun n lo hi h => (by simp [PT.get_e] at h)
      · exact rgCheck_ok hd hci h6
    have hg : Good U g st' := ⟨hd, fun c hc => (by rw [h3] at hc; cases hc), hci, hrg, by simpa using h2⟩
    obtain ⟨hg1, k⟩ := runPol_ok hN hmix hs mc ml K d g f _ _ _ st' he hg
    have hst : start ars = ((start ars).1, (start ars).2) := rfl
    generalize hin : inVs 0 0 ars { st0 with nv := arSize ars } = y at *
    obtain ⟨xs, hh, stt⟩ := y
    have hst1 : start ars = (xs, { stt with heap := hh, next := ars.length }) := by unfold start; rw [hin]
    rw [hst1] at k hg1
    have hg2 : Good U g stt := ⟨hg1.defs, hg1.cs, hg1.ci, hg1.rg, hg1.ok⟩
    obtain ⟨_, hsame, hval⟩ := inVs_ok (w := w) hin hg2
    obtain ⟨hl1, hl2, hl3⟩ := hval vs (fitVs_congr (fun j hj => (k2 j hj).symm) (by omega) hv)
    obtain ⟨hl3, hl4⟩ := hl3 (rhoOf vs) (rhoOf_agr vs)
    have hI : Inv g (rhoOf vs) { stt with heap := hh, next := ars.length } w := by
      refine ⟨HoldsA.weak hl4, fun _ _ _ _ _ h => (by cases h), fun n b h => ?_, fun n b h => ?_, fun n h => ?_, fun _ _ _ => rfl, fun _ h => (by cases h)⟩
      · obtain ⟨a, l, c, e1, e2, e3⟩ := rhoOf_some h
        have := (List.getElem?_eq_some_iff.1 e1).1
        refine ⟨by show n < ars.length; omega, ?_⟩
        show n ∉ stt.resv
        rw [hsame.resv]; simp [st0]
      · obtain ⟨a, l, c, e1, e2, e3⟩ := rhoOf_some h
        rw [← e3]
        exact hl2 n a l c e1 e2
      · have h : n ∈ stt.resv := h
        rw [hsame.resv] at h; simp [st0] at h
    refine (k (rhoOf vs) w vs hI hl3).mono fun e w' hp => ?_
    obtain ⟨r', u, rfl, hd, _, hE⟩ := hp
    refine ⟨?_, ⟨hE.os, hE.tape, hE.output, hE.size, fun b hb => hE.frame b hb (fun _ _ => rfl)⟩⟩
    rw [den_b hd]
    show Ending.returned (.bool (ieq z 1)) = _
    rw [h1]
  · cases h
/-- What is told of the arguments ahead: a symbol of theirs, a whole number of 64 bits. -/
def symOk (m : Nat) (st : St) : A → Bool
  | .k _ => true
  | .x n => Nat.ble m n && (match getD st n with
    | some (.conv .i64, [.x i]) => Nat.beq (n - m) i && Nat.blt i m
    | _ => false)
def startF (ars : List Ar) (facts : List (Bool × A × A × Bool)) : List V × St := ((start ars).1, { (start ars).2 with ci := facts })
/-- It ends in 'true', where the facts hold. -/
def lawF (ars : List Ar) (facts : List (Bool × A × A × Bool)) (r : Option (V × St)) : Bool := match r with
  | some (.w (.c (.b (.k z))), st) => ieq z 1 && (!st.bad && st.cs.isEmpty && (decide (st.ci = facts) && (isE st.rg || rgAll st id st.rg))) && (wfD (arSize ars) st.nv (defL st st.nv) && (facts.all (fun c => symOk (arSize ars) st c.2.1 && symOk (arSize ars) st c.2.2.1) && (start ars).2.ci.isEmpty))
  | _ => false
/-- What the arguments' symbols stand for. -/
def gF (m : Nat) (g0 : Sg) : Sg := fun n => wrapF .i64 (g0 (n - m))
theorem symOk_val {g0 g : Sg} {st : St} {m : Nat} (hd : DefsOk U g st) (hl : ∀ j, j < m → g j = g0 j) {a : A} (h : symOk m st a = true) : a.val g = a.val (gF m g0) := by
  cases a with
  | k z => rfl
  | x n =>
    unfold symOk at h
    rw [Bool.and_eq_true] at h
    obtain ⟨h1, h2⟩ := h
    split at h2
    · rename_i i hn
      rw [Bool.and_eq_true, nbeq, nblt, decide_eq_true_eq, decide_eq_true_eq] at h2
      have e : g n = wrapF .i64 (g i) := hd n _ _ hn
      show g n = wrapF .i64 (g0 (n - m))
      rw [e, h2.1, hl i h2.2]
    · cases h2
theorem law_trueF {P : Program} {L : Lk} [LkOk P L] {X : FuncId → Nat} (hN : NamesOk P X) (hmix : P.follows .mixedOrders = true) {f : FuncId} {sum : Sum} (hs : ∀ g, CallOk P U g sum) {mc : FuncId → Bool} {ml : FuncId → Nat} {K d : Nat} {ars : List Ar} {facts : List (Bool × A × A × Bool)}
    (h : lawF ars facts (runPol L U X sum mc ml K d f (startF ars facts).1 (startF ars facts).2) = true) (g0 : Sg) (hF : ∀ c ∈ facts, ciOk (gF (arSize ars) g0) c) (vs : List Value) (w : World) (hv : fitVs g0 w 0 ars vs) :
    Calls P f ⟨vs⟩ w fun e w' => e = .returned (.bool true) ∧ Below w.heap.size w w' := by
  unfold lawF at h
  split at h
  · rename_i z st' he
    simp only [Bool.and_eq_true] at h
    obtain ⟨⟨h1, ⟨h2, h3⟩, h4, h6⟩, h5, h7, h8⟩ := h
    have h3 : st'.cs = [] := by simpa using h3
    rw [decide_eq_true_eq] at h4
    obtain ⟨k1, k2⟩ := solve_ok U g0 h5
    generalize hg' : solve U (defL st' st'.nv) g0 = g at *
    have hd : DefsOk U g st' := fun n p xa hn => k1 _ (defL_mem hn (getD_lt hn).1)
    have hci : ∀ c ∈ st'.ci, ciOk g c := fun c hc => by
      rw [h4] at hc
      have e := List.all_eq_true.1 h7 c hc
      rw [Bool.and_eq_true] at e
      have e1 := symOk_val hd (fun j hj => k2 j hj) e.1
      have e2 := symOk_val hd (fun j hj => k2 j hj) e.2
      have := hF c hc
      unfold ciOk at this ⊢
      rw [e1, e2]; exact this
    have hrg : ∀ n lo hi, st'.rg.get n = some (lo, hi) → lo ≤ g n ∧ g n ≤ hi := by
      rw [Bool.or_eq_true] at h6
      rcases h6 with h6 | h6
      · rw [isE_eq h6]; exact fun n lo hi h => (by simp [PT.get_e] at h)
      · exact rgCheck_ok hd hci h6
    have hg : Good U g st' := ⟨hd, fun c hc => (by rw [h3] at hc; cases hc), hci, hrg, by simpa using h2⟩
    obtain ⟨hg1, k⟩ := runPol_ok hN hmix hs mc ml K d g f _ _ _ st' he hg
    generalize hin : inVs 0 0 ars { st0 with nv := arSize ars } = y at *
    obtain ⟨xs, hh, stt⟩ := y
    have hst1 : start ars = (xs, { stt with heap := hh, next := ars.length }) := by unfold start; rw [hin]
    unfold startF at k hg1
    rw [hst1] at k hg1 h8
    have hci0 : stt.ci = [] := by simpa using h8
    have hg2 : Good U g stt := ⟨hg1.defs, hg1.cs, (fun c hc => by rw [hci0] at hc; cases hc), hg1.rg, hg1.ok⟩
    obtain ⟨_, hsame, hval⟩ := inVs_ok (w := w) hin hg2
    obtain ⟨hl1, hl2, hl3⟩ := hval vs (fitVs_congr (fun j hj => (k2 j hj).symm) (by omega) hv)
    obtain ⟨hl3, hl4⟩ := hl3 (rhoOf vs) (rhoOf_agr vs)
    have hI : Inv g (rhoOf vs) { stt with heap := hh, next := ars.length } w := by
      refine ⟨HoldsA.weak hl4, fun _ _ _ _ _ h => (by cases h), fun n b h => ?_, fun n b h => ?_, fun n h => ?_, fun _ _ _ => rfl, fun _ h => (by cases h)⟩
      · obtain ⟨a, l, c, e1, e2, e3⟩ := rhoOf_some h
        have := (List.getElem?_eq_some_iff.1 e1).1
        refine ⟨by show n < ars.length; omega, ?_⟩
        show n ∉ stt.resv
        rw [hsame.resv]; simp [st0]
      · obtain ⟨a, l, c, e1, e2, e3⟩ := rhoOf_some h
        rw [← e3]
        exact hl2 n a l c e1 e2
      · have h : n ∈ stt.resv := h
        rw [hsame.resv] at h; simp [st0] at h
    refine (k (rhoOf vs) w vs (hI.same ⟨rfl, rfl, rfl⟩) hl3).mono fun e w' hp => ?_
    obtain ⟨r', u, rfl, hd, _, hE⟩ := hp
    refine ⟨?_, ⟨hE.os, hE.tape, hE.output, hE.size, fun b hb => hE.frame b hb (fun _ _ => rfl)⟩⟩
    rw [den_b hd]
    show Ending.returned (.bool (ieq z 1)) = _
    rw [h1]
  · cases h

/-! ### Facts on the arguments' symbols and their opposites -/
def negsT (m : Nat) : Nat → St → St
  | 0, st => st
  | k + 1, st => (app U (.lin 0 [-1]) [.x (m + k)] (negsT m k st)).2
theorem negsT_ok {g : Sg} (m : Nat) : ∀ (k : Nat) (st : St), Good U g (negsT m k st) → Good U g st ∧ Same st (negsT m k st)
  | 0, st, h => ⟨h, Same.refl _⟩
  | k + 1, st, h => by
    obtain ⟨h1, h2, _⟩ := app_ok2 _ _ _ h
    obtain ⟨k1, k2⟩ := negsT_ok m k st h1
    exact ⟨k1, k2.trans h2⟩
def argOk (m : Nat) (st : St) (n : Nat) : Bool := match getD st n with
  | some (.conv .i64, [.x i]) => Nat.ble m n && (Nat.beq (n - m) i && Nat.blt i m)
  | _ => false
def symNOk (m : Nat) (st : St) : A → Bool
  | .k _ => true
  | .x n => bif argOk m st n then true else match getD st n with
    | some (.lin k [c], [.x j]) => ieq k 0 && (ieq c (-1) && (Nat.beq n (j + m) && argOk m st j))
    | _ => false
/-- What the arguments' symbols, and their opposites, stand for. -/
def gN (m : Nat) (g0 : Sg) : Sg := fun n => if n < 2 * m then wrapF .i64 (g0 (n - m)) else -wrapF .i64 (g0 (n - 2 * m))
def startN (ars : List Ar) (ng : Nat) (facts : List (Bool × A × A × Bool)) : List V × St := ((start ars).1, { negsT (arSize ars) ng (start ars).2 with ci := facts })
def lawN (ars : List Ar) (facts : List (Bool × A × A × Bool)) (r : Option (V × St)) : Bool := match r with
  | some (.w (.c (.b (.k z))), st) => ieq z 1 && (!st.bad && st.cs.isEmpty && (decide (st.ci = facts) && (isE st.rg || rgAll st id st.rg))) && (wfD (arSize ars) st.nv (defL st st.nv) && (facts.all (fun c => symNOk (arSize ars) st c.2.1 && symNOk (arSize ars) st c.2.2.1) && ((start ars).2.ci.isEmpty && (start ars).2.cs.isEmpty)))
  | _ => false
theorem argOk_val {g0 g : Sg} {st : St} {m n : Nat} (hd : DefsOk U g st) (hl : ∀ j, j < m → g j = g0 j) (h : argOk m st n = true) : g n = wrapF .i64 (g0 (n - m)) ∧ m ≤ n ∧ n < 2 * m := by
  unfold argOk at h
  split at h
  · rename_i i hn
    rw [Bool.and_eq_true, Bool.and_eq_true, nble, nbeq, nblt, decide_eq_true_eq, decide_eq_true_eq, decide_eq_true_eq] at h
    have e : g n = wrapF .i64 (g i) := hd n _ _ hn
    exact ⟨by rw [e, h.2.1, hl i h.2.2], h.1, by omega⟩
  · cases h
theorem symNOk_val {g0 g : Sg} {st : St} {m : Nat} (hd : DefsOk U g st) (hl : ∀ j, j < m → g j = g0 j) {a : A} (h : symNOk m st a = true) : a.val g = a.val (gN m g0) := by
  cases a with
  | k z => rfl
  | x n =>
    show g n = gN m g0 n
    unfold symNOk at h
    simp only at h
    cases ha : argOk m st n
    · rw [ha, cond_false] at h
      split at h
      · rename_i k c j hn
        rw [Bool.and_eq_true, Bool.and_eq_true, Bool.and_eq_true, ieq_iff, ieq_iff, nbeq, decide_eq_true_eq, decide_eq_true_eq, decide_eq_true_eq] at h
        obtain ⟨rfl, rfl, h3, h4⟩ := h
        obtain ⟨k1, k2, k3⟩ := argOk_val hd hl h4
        have e : g n = (-1) * g j + 0 := hd n _ _ hn
        unfold gN
        rw [if_neg (by omega), e, k1, show n - 2 * m = j - m by omega]
        omega
      · cases h
    · obtain ⟨k1, k2, k3⟩ := argOk_val hd hl ha
      unfold gN
      rw [if_pos k3, k1]
theorem keep_ci (n : Nat) (p : Pr) (xa : List A) (st : St) : (keep n p xa st).ci = st.ci := by
  unfold keep
  cases (keptP p && Nat.blt n 1000000)
  · rfl
  · rw [cond_true]
    split
    · rfl
    · split <;> rfl
theorem app_ci (p : Pr) (xa : List A) (st : St) : (app U p xa st).2.ci = st.ci := by
  unfold app
  split
  · rfl
  · unfold newD
    split
    · exact keep_ci _ _ _ _
    · cases Nat.blt st.nv 1000000
      · rfl
      · rw [cond_true]
        exact keep_ci _ _ _ _
theorem negsT_ci (m : Nat) : ∀ (k : Nat) (st : St), (negsT m k st).ci = st.ci
  | 0, _ => rfl
  | k + 1, st => by
    unfold negsT
    rw [app_ci, negsT_ci m k st]
theorem law_trueN {P : Program} {L : Lk} [LkOk P L] {X : FuncId → Nat} (hN : NamesOk P X) (hmix : P.follows .mixedOrders = true) {f : FuncId} {sum : Sum} (hs : ∀ g, CallOk P U g sum) {mc : FuncId → Bool} {ml : FuncId → Nat} {K d : Nat} {ars : List Ar} {ng : Nat} {facts : List (Bool × A × A × Bool)}
    (h : lawN ars facts (runPol L U X sum mc ml K d f (startN ars ng facts).1 (startN ars ng facts).2) = true) (g0 : Sg) (hF : ∀ c ∈ facts, ciOk (gN (arSize ars) g0) c) (vs : List Value) (w : World) (hv : fitVs g0 w 0 ars vs) :
    Calls P f ⟨vs⟩ w fun e w' => e = .returned (.bool true) ∧ Below w.heap.size w w' := by
  unfold lawN at h
  split at h
  · rename_i z st' he
    simp only [Bool.and_eq_true] at h
    obtain ⟨⟨h1, ⟨h2, h3⟩, h4, h6⟩, h5, h7, h8, h9⟩ := h
    have h3 : st'.cs = [] := by simpa using h3
    rw [decide_eq_true_eq] at h4
    obtain ⟨k1, k2⟩ := solve_ok U g0 h5
    generalize hg' : solve U (defL st' st'.nv) g0 = g at *
    have hd : DefsOk U g st' := fun n p xa hn => k1 _ (defL_mem hn (getD_lt hn).1)
    have hci : ∀ c ∈ st'.ci, ciOk g c := fun c hc => by
      rw [h4] at hc
      have e := List.all_eq_true.1 h7 c hc
      rw [Bool.and_eq_true] at e
      have e1 := symNOk_val hd (fun j hj => k2 j hj) e.1
      have e2 := symNOk_val hd (fun j hj => k2 j hj) e.2
      have := hF c hc
      unfold ciOk at this ⊢
      rw [e1, e2]; exact this
    have hrg : ∀ n lo hi, st'.rg.get n = some (lo, hi) → lo ≤ g n ∧ g n ≤ hi := by
      rw [Bool.or_eq_true] at h6
      rcases h6 with h6 | h6
      · rw [isE_eq h6]; exact fun n lo hi h => (by simp [PT.get_e] at h)
      · exact rgCheck_ok hd hci h6
    have hg : Good U g st' := ⟨hd, fun c hc => (by rw [h3] at hc; cases hc), hci, hrg, by simpa using h2⟩
    obtain ⟨hg1, k⟩ := runPol_ok hN hmix hs mc ml K d g f _ _ _ st' he hg
    generalize hin : inVs 0 0 ars { st0 with nv := arSize ars } = y at *
    obtain ⟨xs, hh, stt⟩ := y
    have hst1 : start ars = (xs, { stt with heap := hh, next := ars.length }) := by unfold start; rw [hin]
    unfold startN at k hg1
    rw [hst1] at k hg1 h8 h9
    have hci0 : stt.ci = [] := by simpa using h8
    have hcs0 : stt.cs = [] := by simpa using h9
    have hci1 : (negsT (arSize ars) ng { stt with heap := hh, next := ars.length }).ci = [] := by rw [negsT_ci]; exact hci0
    have hneg : Good U g (negsT (arSize ars) ng { stt with heap := hh, next := ars.length }) := ⟨hg1.defs, hg1.cs, fun c hc => (by rw [hci1] at hc; cases hc), hg1.rg, hg1.ok⟩
    obtain ⟨hg3, hsm⟩ := negsT_ok _ _ _ hneg
    have hg2 : Good U g stt := ⟨hg3.defs, (fun c hc => by rw [hcs0] at hc; cases hc), (fun c hc => by rw [hci0] at hc; cases hc), hg3.rg, hg3.ok⟩
    obtain ⟨_, hsame, hval⟩ := inVs_ok (w := w) hin hg2
    obtain ⟨hl1, hl2, hl3⟩ := hval vs (fitVs_congr (fun j hj => (k2 j hj).symm) (by omega) hv)
    obtain ⟨hl3, hl4⟩ := hl3 (rhoOf vs) (rhoOf_agr vs)
    have hI : Inv g (rhoOf vs) { stt with heap := hh, next := ars.length } w := by
      refine ⟨HoldsA.weak hl4, fun _ _ _ _ _ h => (by cases h), fun n b h => ?_, fun n b h => ?_, fun n h => ?_, fun _ _ _ => rfl, fun _ h => (by cases h)⟩
      · obtain ⟨a, l, c, e1, e2, e3⟩ := rhoOf_some h
        have := (List.getElem?_eq_some_iff.1 e1).1
        refine ⟨by show n < ars.length; omega, ?_⟩
        show n ∉ stt.resv
        rw [hsame.resv]; simp [st0]
      · obtain ⟨a, l, c, e1, e2, e3⟩ := rhoOf_some h
        rw [← e3]
        exact hl2 n a l c e1 e2
      · have h : n ∈ stt.resv := h
        rw [hsame.resv] at h; simp [st0] at h
    refine (k (rhoOf vs) w vs ((hI.same hsm).same ⟨rfl, rfl, rfl⟩) hl3).mono fun e w' hp => ?_
    obtain ⟨r', u, rfl, hd, _, hE⟩ := hp
    refine ⟨?_, ⟨hE.os, hE.tape, hE.output, hE.size, fun b hb => hE.frame b hb (fun _ _ => rfl)⟩⟩
    rw [den_b hd]
    show Ending.returned (.bool (ieq z 1)) = _
    rw [h1]
  · cases h


/-! ### The ways of a law, each run by itself -/
abbrev Defs := List (Nat × Pr × List A)
def preOk (st : St) : Defs → Bool
  | [] => true
  | (n, p, xa) :: r => (match getD st n with
    | some (q, ys) => (bif A.beqL xa ys then decide (p = q) else false)
    | none => false) && preOk st r
/-- All names from m to b, one below the other. -/
def fullD (m : Nat) : Nat → Defs → Bool
  | b, [] => Nat.beq b m
  | b, (n, _, xa) :: r => Nat.beq (n + 1) b && (xa.all (A.below n) && fullD m n r)
def startW (ars : List Ar) (o : List Bool) : List V × St := ((start ars).1, { (start ars).2 with orc := o })
/-- It ends in 'true', where the conditions were answered so. -/
def lawW (ars : List Ar) (b : Nat) (ds : Defs) (cs : List (Nat × Bool)) (r : Option (V × St)) : Bool := match r with
  | some (.w (.c (.b (.k z))), st) => ieq z 1 && (!st.bad && (decide (st.cs = cs) && (decide (st.ci = ciL st cs) && (isE st.rg || rgAll st id st.rg)))) && (wfD (arSize ars) st.nv (defL st st.nv) && (preOk st ds && (fullD (arSize ars) b ds && (cs.all (fun c => Nat.blt c.1 b) && ((start ars).2.ci.isEmpty && (start ars).2.cs.isEmpty)))))
  | _ => false
theorem pre_eq {g g0 : Sg} {st : St} {m : Nat} (hd : DefsOk U g st) (hl : ∀ j, j < m → g j = g0 j) : ∀ {ds : Defs} {b : Nat}, fullD m b ds = true → preOk st ds = true → ∀ j, j < b → g j = solve U ds g0 j
  | [], b, hf, _, j, hj => by
    simp only [fullD, nbeq, decide_eq_true_eq] at hf
    exact hl j (by omega)
  | (n, p, xa) :: r, b, hf, hp, j, hj => by
    unfold fullD at hf
    unfold preOk at hp
    simp only [Bool.and_eq_true, nbeq, decide_eq_true_eq] at hf hp
    obtain ⟨h1, h2, h3⟩ := hf
    obtain ⟨h4, h5⟩ := hp
    have ih := pre_eq hd hl h3 h5
    show _ = (if j = n then _ else solve U r g0 j)
    by_cases e : j = n
    · subst e
      rw [if_pos rfl, ← val_congr h2 ih]
      split at h4
      · rename_i q ys hq
        cases hb : A.beqL xa ys
        · rw [hb] at h4; cases h4
        · rw [hb, cond_true, decide_eq_true_eq] at h4
          rw [beqL_eq hb, h4]
          exact hd j q ys hq
      · cases h4
    · rw [if_neg e]
      exact ih j (by omega)
theorem ciL_all {g : Sg} {st : St} (hd : DefsOk U g st) : ∀ {cs : List (Nat × Bool)}, (∀ c ∈ cs, ieq (g c.1) 1 = c.2) → ∀ c ∈ ciL st cs, ciOk g c
  | [], _, c, hc => by cases hc
  | (n, b) :: r, h, c, hc => by
    unfold ciL at hc
    rcases List.mem_append.1 hc with hc | hc
    · exact info_ok hd (h (n, b) (List.mem_cons_self ..)) c hc
    · exact ciL_all hd (fun d hd => h d (List.mem_cons_of_mem _ hd)) c hc
theorem law_trueW {P : Program} {L : Lk} [LkOk P L] {X : FuncId → Nat} (hN : NamesOk P X) (hmix : P.follows .mixedOrders = true) {f : FuncId} {sum : Sum} (hs : ∀ g, CallOk P U g sum) {mc : FuncId → Bool} {ml : FuncId → Nat} {K d : Nat} {ars : List Ar} {b : Nat} {ds : Defs} {cs : List (Nat × Bool)} {o : List Bool}
    (h : lawW ars b ds cs (runPol L U X sum mc ml K d f (startW ars o).1 (startW ars o).2) = true) (g0 : Sg) (hF : ∀ c ∈ cs, ieq (solve U ds g0 c.1) 1 = c.2) (vs : List Value) (w : World) (hv : fitVs g0 w 0 ars vs) :
    Calls P f ⟨vs⟩ w fun e w' => e = .returned (.bool true) ∧ Below w.heap.size w w' := by
  unfold lawW at h
  split at h
  · rename_i z st' he
    simp only [Bool.and_eq_true] at h
    obtain ⟨⟨h1, h2, h3, h4, h6⟩, h5, h7, h8, h9, h10, h11⟩ := h
    rw [decide_eq_true_eq] at h3 h4
    obtain ⟨k1, k2⟩ := solve_ok U g0 h5
    generalize hg' : solve U (defL st' st'.nv) g0 = g at *
    have hd : DefsOk U g st' := fun n p xa hn => k1 _ (defL_mem hn (getD_lt hn).1)
    have hpre := pre_eq hd (fun j hj => k2 j hj) h8 h7
    have hcs : ∀ c ∈ st'.cs, ieq (g c.1) 1 = c.2 := fun c hc => by
      rw [h3] at hc
      have := List.all_eq_true.1 h9 c hc
      rw [nblt, decide_eq_true_eq] at this
      rw [hpre c.1 this]
      exact hF c hc
    have hci : ∀ c ∈ st'.ci, ciOk g c := fun c hc => by
      rw [h4] at hc
      rw [h3] at hcs
      exact ciL_all hd hcs c hc
    have hrg : ∀ n lo hi, st'.rg.get n = some (lo, hi) → lo ≤ g n ∧ g n ≤ hi := by
      rw [Bool.or_eq_true] at h6
      rcases h6 with h6 | h6
      · rw [isE_eq h6]; exact fun n lo hi h => (by simp [PT.get_e] at h)
      · exact rgCheck_ok hd hci h6
    have hg : Good U g st' := ⟨hd, hcs, hci, hrg, by simpa using h2⟩
    obtain ⟨hg1, k⟩ := runPol_ok hN hmix hs mc ml K d g f _ _ _ st' he hg
    generalize hin : inVs 0 0 ars { st0 with nv := arSize ars } = y at *
    obtain ⟨xs, hh, stt⟩ := y
    have hst1 : start ars = (xs, { stt with heap := hh, next := ars.length }) := by unfold start; rw [hin]
    unfold startW at k hg1
    rw [hst1] at k hg1 h10 h11
    have hci0 : stt.ci = [] := by simpa using h10
    have hcs0 : stt.cs = [] := by simpa using h11
    have hg2 : Good U g stt := ⟨hg1.defs, (fun c hc => by rw [hcs0] at hc; cases hc), (fun c hc => by rw [hci0] at hc; cases hc), hg1.rg, hg1.ok⟩
    obtain ⟨_, hsame, hval⟩ := inVs_ok (w := w) hin hg2
    obtain ⟨hl1, hl2, hl3⟩ := hval vs (fitVs_congr (fun j hj => (k2 j hj).symm) (by omega) hv)
    obtain ⟨hl3, hl4⟩ := hl3 (rhoOf vs) (rhoOf_agr vs)
    have hI : Inv g (rhoOf vs) { stt with heap := hh, next := ars.length } w := by
      refine ⟨HoldsA.weak hl4, fun _ _ _ _ _ h => (by cases h), fun n b h => ?_, fun n b h => ?_, fun n h => ?_, fun _ _ _ => rfl, fun _ h => (by cases h)⟩
      · obtain ⟨a, l, c, e1, e2, e3⟩ := rhoOf_some h
        have := (List.getElem?_eq_some_iff.1 e1).1
        refine ⟨by show n < ars.length; omega, ?_⟩
        show n ∉ stt.resv
        rw [hsame.resv]; simp [st0]
      · obtain ⟨a, l, c, e1, e2, e3⟩ := rhoOf_some h
        rw [← e3]
        exact hl2 n a l c e1 e2
      · have h : n ∈ stt.resv := h
        rw [hsame.resv] at h; simp [st0] at h
    refine (k (rhoOf vs) w vs (hI.same ⟨rfl, rfl, rfl⟩) hl3).mono fun e w' hp => ?_
    obtain ⟨r', u, rfl, hd, _, hE⟩ := hp
    refine ⟨?_, ⟨hE.os, hE.tape, hE.output, hE.size, fun b hb => hE.frame b hb (fun _ _ => rfl)⟩⟩
    rw [den_b hd]
    show Ending.returned (.bool (ieq z 1)) = _
    rw [h1]
  · cases h
/-- The conditions that a law asks: what has been named since the one before, the name, what follows a yes, what follows a no. -/
inductive WT where
  | leaf
  | dead
  | node (n b : Nat) (l : Defs) (t f : WT)
def WT.Ran (ars : List Ar) (run : List Bool → Option (V × St)) : WT → Nat → Defs → List (Nat × Bool) → Prop
  | .leaf, b, ds, cs => lawW ars b ds cs (run (cs.map Prod.snd).reverse) = true
  | .dead, _, ds, cs => ∀ g0 : Sg, (∀ c ∈ cs, ieq (solve U ds g0 c.1) 1 = c.2) → False
  | .node n b' l t f, b, ds, cs => (l.all (fun d => Nat.ble b d.1) && (Nat.ble b b' && Nat.blt n b')) = true ∧ (WT.Ran ars run t b' (l ++ ds) ((n, true) :: cs) ∧ WT.Ran ars run f b' (l ++ ds) ((n, false) :: cs))
/-- What each name stands for. -/
def EqsP (g : Sg) : Defs → Prop
  | [] => True
  | (n, p, xa) :: r => g n = mean U p (xa.map (A.val g)) ∧ EqsP g r
theorem eqs_of {g : Sg} : ∀ {l : Defs}, (∀ d ∈ l, g d.1 = mean U d.2.1 (d.2.2.map (A.val g))) → EqsP g l
  | [], _ => trivial
  | (_, _, _) :: _, h => ⟨h _ (List.mem_cons_self ..), eqs_of fun d hd => h d (List.mem_cons_of_mem _ hd)⟩
/-- Conditions that exclude one another: by what the names stand for. -/
theorem dead_of {m b : Nat} {ds : Defs} {cs : List (Nat × Bool)} (hw : wfD m b ds = true) (h : ∀ g : Sg, EqsP g ds → (∀ c ∈ cs, ieq (g c.1) 1 = c.2) → False) (g0 : Sg) (hc : ∀ c ∈ cs, ieq (solve U ds g0 c.1) 1 = c.2) : False :=
  h _ (eqs_of (solve_ok U g0 hw).1) hc
theorem solve_app {U : Nat → List Int → Int} {ds : Defs} {g0 : Sg} {j : Nat} : ∀ {l : Defs}, (∀ d ∈ l, j ≠ d.1) → solve U (l ++ ds) g0 j = solve U ds g0 j
  | [], _ => rfl
  | (n, p, xa) :: r, h => by
    show (if j = n then _ else solve U (r ++ ds) g0 j) = _
    rw [if_neg (h _ (List.mem_cons_self ..))]
    exact solve_app fun d hd => h d (List.mem_cons_of_mem _ hd)
theorem ways_true {P : Program} {L : Lk} [LkOk P L] {X : FuncId → Nat} (hN : NamesOk P X) (hmix : P.follows .mixedOrders = true) {f : FuncId} {sum : Sum} (hs : ∀ g, CallOk P U g sum) {mc : FuncId → Bool} {ml : FuncId → Nat} {K d : Nat} {ars : List Ar} (g0 : Sg) (vs : List Value) (w : World) (hv : fitVs g0 w 0 ars vs) :
    ∀ (T : WT) (b : Nat) (ds : Defs) (cs : List (Nat × Bool)), T.Ran ars (fun o => runPol L U X sum mc ml K d f (startW ars o).1 (startW ars o).2) b ds cs → (∀ c ∈ cs, c.1 < b ∧ ieq (solve U ds g0 c.1) 1 = c.2) →
      Calls P f ⟨vs⟩ w fun e w' => e = .returned (.bool true) ∧ Below w.heap.size w w'
  | .leaf, b, ds, cs, h, hc => law_trueW hN hmix hs h g0 (fun c hm => (hc c hm).2) vs w hv
  | .dead, b, ds, cs, h, hc => (h g0 fun c hm => (hc c hm).2).elim
  | .node n b' l t f', b, ds, cs, h, hc => by
    obtain ⟨h0, h1, h2⟩ := h
    rw [Bool.and_eq_true, Bool.and_eq_true, List.all_eq_true, nble, nblt, decide_eq_true_eq, decide_eq_true_eq] at h0
    obtain ⟨h3, h4, h5⟩ := h0
    have hold : ∀ c ∈ cs, c.1 < b' ∧ ieq (solve U (l ++ ds) g0 c.1) 1 = c.2 := fun c hm => by
      obtain ⟨k1, k2⟩ := hc c hm
      refine ⟨by omega, ?_⟩
      rw [solve_app fun d hd => by have := h3 d hd; rw [nble, decide_eq_true_eq] at this; omega]
      exact k2
    cases hb : ieq (solve U (l ++ ds) g0 n) 1
    · refine ways_true hN hmix hs g0 vs w hv f' b' (l ++ ds) _ h2 fun c hm => ?_
      rcases List.mem_cons.1 hm with rfl | hm
      · exact ⟨h5, hb⟩
      · exact hold c hm
    · refine ways_true hN hmix hs g0 vs w hv t b' (l ++ ds) _ h1 fun c hm => ?_
      rcases List.mem_cons.1 hm with rfl | hm
      · exact ⟨h5, hb⟩
      · exact hold c hm
end
end Go.Proofs.Ytdleeeahonfnkaa.SX
