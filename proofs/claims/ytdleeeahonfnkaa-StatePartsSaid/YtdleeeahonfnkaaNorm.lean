/- Whole numbers' roots, rounded; lengths of sums. -/
import Derived.Test.YtdleeeahonfnkaaLift
namespace Go.Proofs.Ytdleeeahonfnkaa.Nm
structure Sp (R n : Int) : Prop where
  nn : 0 ≤ R
  hi : n ≤ R * R + R
  lo : R = 0 ∨ R * R - R < n
theorem sqnn (x : Int) : 0 ≤ x * x := by
  rcases Int.le_total 0 x with h | h
  · exact Int.mul_nonneg h h
  · exact Int.mul_nonneg_of_nonpos_of_nonpos h h
theorem le_of_sq {c m : Int} (hm : 0 ≤ m) (h : c * c ≤ m * m) : c ≤ m := by
  rcases Int.lt_or_le m c with h1 | h1
  · have : m * m < c * c := by
      have h2 : m * m ≤ m * c := Int.mul_le_mul_of_nonneg_left (Int.le_of_lt h1) hm
      have h3 : m * c < c * c := Int.mul_lt_mul_of_pos_right h1 (by omega)
      omega
    omega
  · exact h1
theorem gap {x y : Int} (hy : 0 ≤ y) (h : y + 1 ≤ x) : y * y + y ≤ x * x - x := by
  have := Int.mul_le_mul h (show y ≤ x - 1 by omega) hy (by omega)
  grind
theorem Sp.mono {a b S T : Int} (ha : Sp a S) (hb : Sp b T) (h : S ≤ T) : a ≤ b := by
  rcases Int.lt_or_le b a with h1 | h1
  · have := gap hb.nn h1
    have := ha.lo
    have := hb.hi
    have := hb.nn
    omega
  · exact h1
theorem Sp.join {a k m S Y : Int} (ha : Sp a S) (hk : Sp k (a * a + Y)) (hm : Sp m (S + Y)) (hY : 0 ≤ Y) (hS : 0 ≤ S) : k ≤ m + 1 ∧ m ≤ k + 1 := by
  have h1 := ha.nn
  have h2 := hk.nn
  have h3 := hm.nn
  have am : a ≤ m := ha.mono hm (by omega)
  have ak : a ≤ k := by
    apply le_of_sq h2
    rcases Int.lt_or_le k a with h | h
    · have := gap h2 h
      have := hk.hi
      omega
    · exact Int.mul_le_mul h h h1 h2
  constructor
  · rcases Int.lt_or_le (m + 1) k with h | h
    · have g := gap (show 0 ≤ m + 1 by omega) h
      have := hk.lo
      have := hm.hi
      have := ha.lo
      have e : (m + 1) * (m + 1) = m * m + 2 * m + 1 := by grind
      have : a = 0 → a * a = 0 := fun h => by rw [h]; rfl
      omega
    · exact h
  · rcases Int.lt_or_le (k + 1) m with h | h
    · have g := gap (show 0 ≤ k + 1 by omega) h
      have := hm.lo
      have := hk.hi
      have := ha.hi
      have e : (k + 1) * (k + 1) = k * k + 2 * k + 1 := by grind
      omega
    · exact h
/-! lists -/
def sq : List Int → Int
  | [] => 0
  | a :: l => sq l + a * a
def dt : List Int → List Int → Int
  | a :: l, b :: m => dt l m + a * b
  | _, _ => 0
def ad : List Int → List Int → List Int
  | a :: l, b :: m => (a + b) :: ad l m
  | _, _ => []
theorem sq_nn : ∀ l, 0 ≤ sq l
  | [] => Int.le_refl _
  | a :: l => by have := sq_nn l; have := sqnn a; simp only [sq]; omega
theorem cs_step (A B C x y : Int) (hA : 0 ≤ A) (hB : 0 ≤ B) (h : C*C ≤ A*B) : (C + x*y)*(C+x*y) ≤ (A + x*x)*(B+y*y) := by
  have key : 2*(C*(x*y)) ≤ A*(y*y) + B*(x*x) := by
    apply le_of_sq
    · have := Int.mul_nonneg hA (sqnn y); have := Int.mul_nonneg hB (sqnn x); omega
    · have h1 := Int.mul_le_mul_of_nonneg_right h (sqnn (x*y))
      have h2 := sqnn (A*(y*y) - B*(x*x))
      grind
  grind
theorem cs : ∀ l m : List Int, dt l m * dt l m ≤ sq l * sq m
  | [], m => by simp [dt, sq]
  | a :: l, [] => by simp [dt, sq]
  | a :: l, b :: m => by
    have h := cs l m
    simp only [dt, sq]
    exact cs_step _ _ _ _ _ (sq_nn l) (sq_nn m) h
theorem sq_ad : ∀ l m : List Int, l.length = m.length → sq (ad l m) = sq l + 2 * dt l m + sq m
  | [], [], _ => rfl
  | a :: l, b :: m, h => by
    have := sq_ad l m (by simpa using h)
    simp only [ad, sq, dt]
    grind
  | [], _ :: _, h => by simp at h
  | _ :: _, [], h => by simp at h
/-- Two sides. -/
theorem tri2 {l m : List Int} (hl : l.length = m.length) {α β : Int} (ha : 0 ≤ α) (hb : 0 ≤ β) (h1 : sq l ≤ α * α) (h2 : sq m ≤ β * β) : sq (ad l m) ≤ (α + β) * (α + β) := by
  have hc : dt l m ≤ α * β := by
    apply le_of_sq (Int.mul_nonneg ha hb)
    have := cs l m
    have k1 : sq l * sq m ≤ (α * α) * (β * β) := Int.mul_le_mul h1 h2 (sq_nn m) (sqnn α)
    grind
  rw [sq_ad l m hl]
  grind
theorem Sp.tri {s n m : Int} {l k : List Int} (hl : l.length = k.length) (hs : Sp s (sq (ad l k))) (hn : Sp n (sq l)) (hm : Sp m (sq k)) : s ≤ n + m + 2 := by
  have h1 := hn.nn
  have h2 := hm.nn
  have h3 := hs.nn
  have := tri2 hl (α := n + 1) (β := m + 1) (by omega) (by omega) (by have := hn.hi; grind) (by have := hm.hi; grind)
  rcases Int.lt_or_le (n + m + 2) s with h | h
  · have g := gap (show 0 ≤ n + m + 2 by omega) h
    have e : (n + 1 + (m + 1)) = n + m + 2 := by omega
    rw [e] at this
    have := hs.lo
    omega
  · exact h
def sc (k : Int) : List Int → List Int
  | [] => []
  | a :: l => k * a :: sc k l
theorem sc_len (k : Int) : ∀ l, (sc k l).length = l.length
  | [] => rfl
  | _ :: l => by simp [sc, sc_len k l]
theorem sq_sc (k : Int) : ∀ l, sq (sc k l) = k * k * sq l
  | [] => by simp [sc, sq]
  | a :: l => by
    have := sq_sc k l
    simp only [sc, sq]
    grind
/-- Each number times k, divided by P, rounded. -/
def Near (P k : Int) : List Int → List Int → Prop
  | [], [] => True
  | y :: ys, a :: al => (-P ≤ 2 * (P * y - a * k) ∧ 2 * (P * y - a * k) ≤ P) ∧ Near P k ys al
  | _, _ => False
theorem Near.len {P k : Int} : ∀ {ys al : List Int}, Near P k ys al → ys.length = al.length
  | [], [], _ => rfl
  | _ :: _, _ :: _, ⟨_, h⟩ => by simp [Near.len h]
  | [], _ :: _, h => h.elim
  | _ :: _, [], h => h.elim
theorem near_split {P k : Int} (hP : 0 ≤ P) : ∀ {ys al : List Int}, Near P k ys al → ∃ ds : List Int, ds.length = al.length ∧ sc (2 * P) ys = ad (sc (2 * k) al) ds ∧ sc (2 * k) al = ad (sc (2 * P) ys) (sc (-1) ds) ∧ sq ds ≤ (ys.length : Int) * (P * P) ∧ sq (sc (-1) ds) = sq ds
  | [], [], _ => ⟨[], rfl, rfl, rfl, by simp [sq], rfl⟩
  | y :: ys, a :: al, ⟨h1, h2⟩ => by
    obtain ⟨ds, k1, k2, k3, k4, k5⟩ := near_split hP h2
    refine ⟨2 * (P * y - a * k) :: ds, by simp [k1], ?_, ?_, ?_, ?_⟩
    · simp only [sc, ad, k2]
      congr 1
      grind
    · simp only [sc, ad]
      rw [← k3]
      congr 1
      grind
    · simp only [sq, List.length_cons]
      have : (2 * (P * y - a * k)) * (2 * (P * y - a * k)) ≤ P * P := by
        generalize 2 * (P * y - a * k) = d at *
        rcases Int.le_total 0 d with h | h
        · exact Int.mul_le_mul h1.2 h1.2 h (by omega)
        · have := Int.mul_le_mul (show -d ≤ P by omega) (show -d ≤ P by omega) (by omega) (by omega)
          rwa [Int.neg_mul_neg] at this
      have e : ((ys.length + 1 : Nat) : Int) * (P * P) = (ys.length : Int) * (P * P) + P * P := by
        rw [Int.natCast_add, Int.add_mul]; simp
      omega
    · simp only [sc, sq, k5]
      grind
  | [], _ :: _, h => h.elim
  | _ :: _, [], h => h.elim
theorem Sp.scale {P K t n w : Int} {ys al : List Int} (hP : 0 < P) (hK0 : 0 ≤ K) (hK : K ≤ 16 * P) (hnr : Near P K ys al) (hl : ys.length ≤ 4) (ht : Sp t (sq ys)) (hn : Sp n (sq al))
    (hw1 : -P ≤ 2 * (P * w - n * K)) (hw2 : 2 * (P * w - n * K) ≤ P) : t ≤ w + 18 ∧ w ≤ t + 18 := by
  obtain ⟨ds, k1, k2, k3, k4, k5⟩ := near_split (Int.le_of_lt hP) hnr
  have hlen := hnr.len
  have hd : sq ds ≤ (2 * P) * (2 * P) := by
    have : (ys.length : Int) * (P * P) ≤ 4 * (P * P) := Int.mul_le_mul_of_nonneg_right (by omega) (sqnn P)
    grind
  have tn := ht.nn
  have nn := hn.nn
  constructor
  · -- above
    have h1 : sq (sc (2 * K) al) ≤ (2 * K * (n + 1)) * (2 * K * (n + 1)) := by
      rw [sq_sc]
      have := hn.hi
      have h2 : sq al ≤ (n + 1) * (n + 1) := by grind
      have := Int.mul_le_mul_of_nonneg_left h2 (sqnn (2 * K))
      grind
    have h3 := tri2 (by rw [sc_len]; omega) (show 0 ≤ 2 * K * (n + 1) from Int.mul_nonneg (by omega) (by omega)) (show 0 ≤ 2 * P by omega) h1 hd
    rw [← k2, sq_sc] at h3
    rcases ht.lo with h0 | h0
    · -- t is nought
      have hnk : 0 ≤ n * K := Int.mul_nonneg nn hK0
      have : -P ≤ 2 * (P * w) := by omega
      rcases Int.lt_or_le (-1) w with h | h
      · omega
      · have := Int.mul_le_mul_of_nonneg_left (show w ≤ -1 by omega) (Int.le_of_lt hP)
        omega
    · have h4 : (2 * P * (t - 1)) * (2 * P * (t - 1)) ≤ (2 * K * (n + 1) + 2 * P) * (2 * K * (n + 1) + 2 * P) := by
        have h5 : (t - 1) * (t - 1) ≤ sq ys := by grind
        have := Int.mul_le_mul_of_nonneg_left h5 (sqnn (2 * P))
        grind
      have h6 := le_of_sq (Int.add_nonneg (Int.mul_nonneg (by omega) (by omega)) (by omega)) h4
      rcases Int.lt_or_le (w + 18) t with h | h
      · have := Int.mul_le_mul_of_nonneg_left (show w + 19 ≤ t by omega) (Int.le_of_lt hP)
        grind
      · exact h
  · have h1 : sq (sc (2 * P) ys) ≤ (2 * P * (t + 1)) * (2 * P * (t + 1)) := by
      rw [sq_sc]
      have := ht.hi
      have h2 : sq ys ≤ (t + 1) * (t + 1) := by grind
      have := Int.mul_le_mul_of_nonneg_left h2 (sqnn (2 * P))
      grind
    have h3 := tri2 (l := sc (2 * P) ys) (m := sc (-1) ds) (by rw [sc_len, sc_len]; omega) (show 0 ≤ 2 * P * (t + 1) from Int.mul_nonneg (by omega) (by omega)) (show 0 ≤ 2 * P by omega) h1 (by rw [k5]; exact hd)
    rw [← k3, sq_sc] at h3
    have h6 : K * (n - 1) ≤ P * (t + 2) := by
      rcases hn.lo with h0 | h0
      · have h7 : 0 ≤ P * (t + 2) := Int.mul_nonneg (by omega) (by omega)
        rw [h0]; omega
      · have h4 : (2 * K * (n - 1)) * (2 * K * (n - 1)) ≤ (2 * P * (t + 2)) * (2 * P * (t + 2)) := by
          have h5 : (n - 1) * (n - 1) ≤ sq al := by grind
          have := Int.mul_le_mul_of_nonneg_left h5 (sqnn (2 * K))
          grind
        have := le_of_sq (Int.mul_nonneg (by omega) (by omega)) h4
        grind
    rcases Int.lt_or_le (t + 18) w with h | h
    · have := Int.mul_le_mul_of_nonneg_left (show t + 19 ≤ w by omega) (Int.le_of_lt hP)
      grind
    · exact h
end Go.Proofs.Ytdleeeahonfnkaa.Nm
