/- Numbers divided by their length, twice: how long they are then. -/
import Derived.Test.YtdleeeahonfnkaaNorm
namespace Go.Proofs.Ytdleeeahonfnkaa.Nm
theorem mem_sq : ∀ {l : List Int} {x : Int}, x ∈ l → x * x ≤ sq l
  | [], _, h => by cases h
  | a :: l, x, h => by
    have h1 := sq_nn l
    have h2 := sqnn a
    simp only [sq]
    rcases List.mem_cons.1 h with rfl | h
    · omega
    · have := mem_sq h; omega
theorem abs_le_of {x n : Int} (hn : 0 ≤ n) (h : x * x ≤ n * n + n) : -n ≤ x ∧ x ≤ n := by
  have up : ∀ y : Int, y * y ≤ n * n + n → y ≤ n := fun y hy => by
    rcases Int.lt_or_le n y with h1 | h1
    · have := gap hn (show n + 1 ≤ y from h1)
      omega
    · exact h1
  have := up x h
  have := up (-x) (by rw [Int.neg_mul_neg]; exact h)
  omega
/-- No number of a list is greater than its length. -/
theorem Sp.mem {n : Int} {l : List Int} (h : Sp n (sq l)) {x : Int} (hx : x ∈ l) : -n ≤ x ∧ x ≤ n :=
  abs_le_of h.nn (Int.le_trans (mem_sq hx) h.hi)
theorem near_mem {P K : Int} : ∀ {ys al : List Int}, Near P K ys al → ∀ {y : Int}, y ∈ ys → ∃ a, a ∈ al ∧ -P ≤ 2 * (P * y - a * K) ∧ 2 * (P * y - a * K) ≤ P
  | [], _, _, _, h => by cases h
  | y :: ys, a :: al, ⟨h1, h2⟩, z, hz => by
    rcases List.mem_cons.1 hz with rfl | hz
    · exact ⟨a, List.mem_cons_self .., h1⟩
    · obtain ⟨b, k1, k2⟩ := near_mem h2 hz
      exact ⟨b, List.mem_cons_of_mem _ k1, k2⟩
  | _ :: _, [], h, _, _ => h.elim
/-- A number that is divided by no less. -/
theorem cap_of {P K y a : Int} (hP : 1 ≤ P) (hK : 0 ≤ K) (ha : -P ≤ a ∧ a ≤ P) (h : -P ≤ 2 * (P * y - a * K) ∧ 2 * (P * y - a * K) ≤ P) : -K ≤ y ∧ y ≤ K := by
  have h1 := Int.mul_le_mul_of_nonneg_right ha.1 hK
  have h2 := Int.mul_le_mul_of_nonneg_right ha.2 hK
  constructor
  · rcases Int.lt_or_le y (-K) with h3 | h3
    · have := Int.mul_le_mul_of_nonneg_left (show y ≤ -K - 1 by omega) (show 0 ≤ P by omega)
      grind
    · exact h3
  · rcases Int.lt_or_le K y with h3 | h3
    · have := Int.mul_le_mul_of_nonneg_left (show K + 1 ≤ y by omega) (show 0 ≤ P by omega)
      grind
    · exact h3
/-- What the rounding of a division by the length does to the sum of squares. -/
theorem near_sum {n K A : Int} {rs qs : List Int} (hn : 1 ≤ n) (hK : 0 ≤ K) (hr : Near n K rs qs) (hl : rs.length ≤ 4) (hA : 0 ≤ A) (hq : sq qs ≤ A * A) :
    -(2 * (K * A) * n) ≤ n * n * sq rs - K * K * sq qs ∧ n * n * sq rs - K * K * sq qs ≤ 2 * (K * A) * n + n * n := by
  obtain ⟨ds, k1, k2, _, k4, _⟩ := near_split (P := n) (by omega) hr
  have hlen : (sc (2 * K) qs).length = ds.length := by rw [sc_len, k1]
  have e := congrArg sq k2
  rw [sq_sc, sq_ad _ _ hlen, sq_sc] at e
  have hd : sq ds ≤ (2 * n) * (2 * n) := by
    have h4 : (rs.length : Int) ≤ 4 := by omega
    have := Int.mul_le_mul_of_nonneg_right h4 (sqnn n)
    grind
  have hc : ∀ t : Int, t * t = dt (sc (2 * K) qs) ds * dt (sc (2 * K) qs) ds → t ≤ (2 * (K * A)) * (2 * n) := fun t ht => by
    apply le_of_sq (Int.mul_nonneg (Int.mul_nonneg (by omega) (Int.mul_nonneg hK hA)) (by omega))
    rw [ht]
    have h1 := cs (sc (2 * K) qs) ds
    rw [sq_sc] at h1
    have h2 : (2 * K) * (2 * K) * sq qs ≤ (2 * K) * (2 * K) * (A * A) := Int.mul_le_mul_of_nonneg_left hq (sqnn (2 * K))
    have h3 := Int.mul_le_mul h2 hd (sq_nn ds) (Int.mul_nonneg (sqnn _) (sqnn _))
    grind
  have c1 := hc (dt (sc (2 * K) qs) ds) rfl
  have c2 := hc (-dt (sc (2 * K) qs) ds) (by rw [Int.neg_mul_neg])
  have h0 := sq_nn ds
  generalize dt (sc (2 * K) qs) ds = D at *
  generalize sq ds = E at *
  generalize sq rs = R at *
  generalize sq qs = Q at *
  have x1 : (2 * n) * (2 * n) * R = 4 * (n * n * R) := by grind
  have x2 : (2 * K) * (2 * K) * Q = 4 * (K * K * Q) := by grind
  have x3 : (2 * (K * A)) * (2 * n) = 2 * (2 * (K * A) * n) := by grind
  have x4 : (2 * n) * (2 * n) = 4 * (n * n) := by grind
  rw [x1, x2] at e
  rw [x3] at c1 c2
  rw [x4] at hd
  generalize n * n * R = p at *
  generalize K * K * Q = q at *
  generalize 2 * (K * A) * n = z at *
  generalize n * n = s at *
  omega
/-- Of a division by the length: the squares sum to about the square of K. -/
theorem unit_sum {n K : Int} {rs qs : List Int} (hK : 0 ≤ K) (hn : 1 ≤ n) (hr : Near n K rs qs) (hl : rs.length ≤ 4) (hs : Sp n (sq qs)) :
    n * (sq rs - K * K) ≤ K * K + 2 * (K * (n + 1)) + n ∧ -(K * K + 2 * (K * (n + 1)) + n) ≤ n * (sq rs - K * K) := by
  have hA : sq qs ≤ (n + 1) * (n + 1) := by have := hs.hi; grind
  obtain ⟨h1, h2⟩ := near_sum hn hK hr hl (by omega) hA
  have h3 : n * n - n < sq qs := by
    rcases hs.lo with h | h
    · omega
    · exact h
  have h4 := hs.hi
  have k1 : K * K * sq qs ≤ K * K * (n * n + n) := Int.mul_le_mul_of_nonneg_left h4 (sqnn K)
  have k2 : K * K * (n * n - n) ≤ K * K * sq qs := Int.mul_le_mul_of_nonneg_left (by omega) (sqnn K)
  have e1 : n * (n * (sq rs - K * K)) = n * n * sq rs - K * K * (n * n) := by grind
  have e2 : n * (K * K + 2 * (K * (n + 1)) + n) = K * K * n + 2 * (K * (n + 1)) * n + n * n := by grind
  have e3 : n * -(K * K + 2 * (K * (n + 1)) + n) = -(K * K * n + 2 * (K * (n + 1)) * n + n * n) := by rw [Int.mul_neg, e2]
  have e4 : K * K * (n * n + n) = K * K * (n * n) + K * K * n := Int.mul_add _ _ _
  have e5 : K * K * (n * n - n) = K * K * (n * n) - K * K * n := Int.mul_sub _ _ _
  rw [e4] at k1
  rw [e5] at k2
  have hs0 := sqnn n
  constructor
  · refine Int.le_of_mul_le_mul_left (a := n) ?_ (by omega)
    rw [e1, e2]
    clear e1 e2 e3 e4 e5 h3 h4 hA
    generalize n * n * sq rs = p at *
    generalize K * K * sq qs = q at *
    generalize 2 * (K * (n + 1)) * n = z at *
    generalize K * K * (n * n) = t at *
    generalize K * K * n = u at *
    generalize n * n = s at *
    omega
  · refine Int.le_of_mul_le_mul_left (a := n) ?_ (by omega)
    rw [e1, e3]
    clear e1 e2 e3 e4 e5 h3 h4 hA
    generalize n * n * sq rs = p at *
    generalize K * K * sq qs = q at *
    generalize 2 * (K * (n + 1)) * n = z at *
    generalize K * K * (n * n) = t at *
    generalize K * K * n = u at *
    generalize n * n = s at *
    omega
/-- After a first division the length is no less than K / 2 and a little. -/
theorem unit_low {n m : Int} {qs al : List Int} (hn : 1 ≤ n) (hr : Near n 1073741824 qs al) (hl : qs.length ≤ 4) (h1 : n * n - n < sq al) (hm : Sp m (sq qs)) : 536870916 ≤ m := by
  obtain ⟨ds, k1, k2, k3, k4, k5⟩ := near_split (P := n) (by omega) hr
  have hm0 := hm.nn
  rcases Int.lt_or_le m 536870916 with hlt | hge
  · exfalso
    have e := congrArg sq k3
    rw [sq_sc] at e
    have hlen : (sc (2 * n) qs).length = (sc (-1) ds).length := by rw [sc_len, sc_len, k1]; exact hr.len
    have hd : sq (sc (-1) ds) ≤ (2 * n) * (2 * n) := by
      rw [k5]
      have h4 : (qs.length : Int) ≤ 4 := by omega
      have := Int.mul_le_mul_of_nonneg_right h4 (sqnn n)
      grind
    have hq : sq (sc (2 * n) qs) ≤ (2 * n * 536870917) * (2 * n * 536870917) := by
      rw [sq_sc]
      have h5 : sq qs ≤ 536870917 * 536870917 := by
        have h6 := hm.hi
        have := Int.mul_le_mul (show m ≤ 536870915 by omega) (show m ≤ 536870915 by omega) hm0 (by omega)
        omega
      have := Int.mul_le_mul_of_nonneg_left h5 (sqnn (2 * n))
      grind
    have t := tri2 hlen (Int.mul_nonneg (by omega) (by omega)) (by omega) hq hd
    rw [← e] at t
    have u : (2 * n * 536870917 + 2 * n) * (2 * n * 536870917 + 2 * n) = 4 * (536870918 * 536870918) * (n * n) := by grind
    rw [u] at t
    have v := Int.mul_le_mul_of_nonneg_left (show n * n - n + 1 ≤ sq al by omega) (show (0 : Int) ≤ 2 * 1073741824 * (2 * 1073741824) by omega)
    have w : 0 ≤ (n - 2) * (n - 2) := sqnn _
    have w2 : (n - 2) * (n - 2) = n * n - 4 * n + 4 := by grind
    have w3 := sqnn n
    have w4 : 1 ≤ n * n := by have := Int.mul_le_mul hn hn (by omega) (by omega); omega
    generalize n * n = s at *
    generalize sq al = A at *
    omega
  · exact hge
/-- Divided by their length twice: the squares sum to 2^60 within 2^32; none is above 2^30. -/
theorem unit_near {n m : Int} {rs qs al : List Int} (hn : 1 ≤ n) (hq : Near n 1073741824 qs al) (hl : qs.length ≤ 4) (h1 : n * n - n < sq al) (hm : Sp m (sq qs)) (hr : Near m 1073741824 rs qs) :
    1152921504606846976 - 4294967296 ≤ sq rs ∧ sq rs ≤ 1152921504606846976 + 4294967296 := by
  have hlow := unit_low hn hq hl h1 hm
  obtain ⟨k1, k2⟩ := unit_sum (by omega) (by omega) hr (by rw [hr.len]; exact hl) hm
  have e : (1073741824 : Int) * 1073741824 = 1152921504606846976 := by decide
  rw [e] at k1 k2
  constructor
  · rcases Int.lt_or_le (sq rs) (1152921504606846976 - 4294967296) with h | h
    · have := Int.mul_le_mul_of_nonneg_left (show sq rs - 1152921504606846976 ≤ -4294967297 by omega) (show 0 ≤ m by omega)
      omega
    · exact h
  · rcases Int.lt_or_le (1152921504606846976 + 4294967296) (sq rs) with h | h
    · have := Int.mul_le_mul_of_nonneg_left (show 4294967297 ≤ sq rs - 1152921504606846976 by omega) (show 0 ≤ m by omega)
      omega
    · exact h
/-- A length that is about 2^30. -/
theorem unit_len {n S : Int} (h : Sp n S) (h1 : 1152921504606846976 - 4294967296 ≤ S) (h2 : S ≤ 1152921504606846976 + 4294967296) : 1073741822 ≤ n ∧ n ≤ 1073741826 := by
  have h0 := h.nn
  have h3 := h.hi
  constructor
  · rcases Int.lt_or_le n 1073741822 with hl | hl
    · have := Int.mul_le_mul (show n ≤ 1073741821 by omega) (show n ≤ 1073741821 by omega) h0 (by omega)
      omega
    · exact hl
  · rcases Int.lt_or_le 1073741826 n with hl | hl
    · have h4 : n * n - n < S := by
        rcases h.lo with h5 | h5
        · omega
        · exact h5
      have := Int.mul_le_mul (show 1073741827 ≤ n by omega) (show 1073741826 ≤ n - 1 by omega) (by omega) (by omega)
      rw [Int.mul_sub, Int.mul_one] at this
      omega
    · exact hl
/-- A number divided by such a length is near itself. -/
theorem unit_step {n u q : Int} (h1 : 1073741822 ≤ n) (h2 : n ≤ 1073741826) (hu : -1073741826 ≤ u ∧ u ≤ 1073741826) (h : -n ≤ 2 * (n * q - u * 1073741824) ∧ 2 * (n * q - u * 1073741824) ≤ n) : -2 ≤ q - u ∧ q - u ≤ 2 := by
  have e : n * (q - u) = (n * q - u * 1073741824) + u * (1073741824 - n) := by grind
  have b : -2147483652 ≤ u * (1073741824 - n) ∧ u * (1073741824 - n) ≤ 2147483652 := by
    have : n = 1073741822 ∨ n = 1073741823 ∨ n = 1073741824 ∨ n = 1073741825 ∨ n = 1073741826 := by omega
    rcases this with rfl | rfl | rfl | rfl | rfl <;> omega
  generalize n * q - u * 1073741824 = d at *
  generalize u * (1073741824 - n) = f at *
  constructor
  · rcases Int.lt_or_le (q - u) (-2) with hl | hl
    · have := Int.mul_le_mul_of_nonneg_left (show q - u ≤ -3 by omega) (show 0 ≤ n by omega)
      omega
    · exact hl
  · rcases Int.lt_or_le 2 (q - u) with hl | hl
    · have := Int.mul_le_mul_of_nonneg_left (show 3 ≤ q - u by omega) (show 0 ≤ n by omega)
      omega
    · exact hl
theorem mem_small {l : List Int} {x : Int} (h : sq l ≤ 1152921504606846976 + 4294967296) (hx : x ∈ l) : -1073741826 ≤ x ∧ x ≤ 1073741826 :=
  abs_le_of (by omega) (Int.le_trans (mem_sq hx) (by omega))
/-- Divided by their length once more: the squares' sum again. -/
theorem unit_more {n : Int} {qs us : List Int} (hr : Near n 1073741824 qs us) (hl : qs.length ≤ 4) (hs : Sp n (sq us)) (h1 : 1152921504606846976 - 4294967296 ≤ sq us) (h2 : sq us ≤ 1152921504606846976 + 4294967296) :
    1152921504606846976 - 4294967296 ≤ sq qs ∧ sq qs ≤ 1152921504606846976 + 4294967296 := by
  obtain ⟨n1, n2⟩ := unit_len hs h1 h2
  obtain ⟨k1, k2⟩ := unit_sum (by omega) (by omega) hr hl hs
  have e : (1073741824 : Int) * 1073741824 = 1152921504606846976 := by decide
  rw [e] at k1 k2
  constructor
  · rcases Int.lt_or_le (sq qs) (1152921504606846976 - 4294967296) with h | h
    · have := Int.mul_le_mul_of_nonneg_left (show sq qs - 1152921504606846976 ≤ -4294967297 by omega) (show 0 ≤ n by omega)
      omega
    · exact h
  · rcases Int.lt_or_le (1152921504606846976 + 4294967296) (sq qs) with h | h
    · have := Int.mul_le_mul_of_nonneg_left (show 4294967297 ≤ sq qs - 1152921504606846976 by omega) (show 0 ≤ n by omega)
      omega
    · exact h
end Go.Proofs.Ytdleeeahonfnkaa.Nm
