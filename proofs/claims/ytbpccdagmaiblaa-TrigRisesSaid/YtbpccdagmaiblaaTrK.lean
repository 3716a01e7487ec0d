/- What the laws of sines and cosines ask, numbers alone. -/
import Derived.Test.YtbpccdagmaiblaaTrH
namespace Go.Proofs.Ytbpccdagmaiblaa.Tr
open Go SX
/-- A wrapped angle, its ways together. -/
theorem sel_wrap {r a b c d e f : Int} (ha : a = b2i (cmpF .lss 3373259426 r)) (hb : b = 1 * r + (-6746518852)) (hc : c = b2i (cmpF .lss (-3373259426) r)) (hd : d = 1 * r + 6746518852)
    (he : e = bif ieq c 1 then r else d) (hf : f = bif ieq a 1 then b else e) : f = if 3373259426 < r then r - 6746518852 else if -3373259426 < r then r else r + 6746518852 := by
  subst ha hc
  rw [ieq_b2i] at he hf
  simp only [cmpF, ile_iff] at he hf
  by_cases h1 : 3373259426 < r
  · rw [if_pos h1]
    rw [decide_eq_false (by omega)] at hf
    rw [Bool.not_false, cond_true] at hf
    omega
  · rw [if_neg h1]
    rw [decide_eq_true (show r ≤ 3373259426 by omega)] at hf
    rw [Bool.not_true, cond_false] at hf
    by_cases h2 : -3373259426 < r
    · rw [if_pos h2]
      rw [decide_eq_false (by omega), Bool.not_false, cond_true] at he
      omega
    · rw [if_neg h2]
      rw [decide_eq_true (show r ≤ -3373259426 by omega), Bool.not_true, cond_false] at he
      omega
theorem sel_wrapT {x r a b c d e f : Int} (hr : r = x.tmod 6746518852) (ha : a = b2i (cmpF .lss 3373259426 r)) (hb : b = 1 * r + (-6746518852)) (hc : c = b2i (cmpF .lss (-3373259426) r)) (hd : d = 1 * r + 6746518852)
    (he : e = bif ieq c 1 then r else d) (hf : f = bif ieq a 1 then b else e) : f = wrapT x := by
  rw [sel_wrap ha hb hc hd he hf, hr]
  rfl
theorem tmod_id {x : Int} (h1 : -6746518852 < x) (h2 : x < 6746518852) : x.tmod 6746518852 = x := by
  rcases Int.le_total 0 x with h | h
  · exact Int.tmod_eq_of_lt h h2
  · have := Int.tmod_eq_of_lt (show 0 ≤ -x by omega) (show -x < 6746518852 by omega)
    rw [Int.neg_tmod] at this
    omega
/-- A size below a bound. -/
theorem sel_abs {d n c s K : Int} (hn : n = -d) (hc : c = b2i (cmpF .lss d 0)) (hs : s = bif ieq c 1 then n else d) (h1 : -K ≤ d) (h2 : d ≤ K) : ¬ (K < s) := by
  subst hc
  rw [ieq_b2i] at hs
  simp only [cmpF, ile_iff] at hs
  by_cases h : d < 0
  · rw [decide_eq_false (by omega), Bool.not_false, cond_true] at hs
    omega
  · rw [decide_eq_true (show 0 ≤ d by omega), Bool.not_true, cond_false] at hs
    omega
theorem no_less {a b x y : Int} (h : ¬ (a < b)) (hx : x = b2i (cmpF .lss a b)) (hy : y = b2i (!ieq x 1)) : ieq y 1 = true := by
  subst hx hy
  rw [ieq_b2i, ieq_b2i]
  simp only [cmpF, ile_iff]
  rw [decide_eq_true (show b ≤ a by omega)]
  rfl
theorem U16s {a b c d : Int} (a1 : -1073743000 ≤ a) (a2 : a ≤ 1073743000) (b1 : -1073743000 ≤ b) (b2 : b ≤ 1073743000) (c1 : -1073743000 ≤ c) (c2 : c ≤ 1073743000) (d1 : -1073743000 ≤ d) (d2 : d ≤ 1073743000) :
    ∃ y, U 16 [30, a, b, c, d] = y ∧ -536870912 ≤ 1073741824 * y - (a * b + c * d) ∧ 1073741824 * y - (a * b + c * d) ≤ 536870912 := by
  refine ⟨_, rfl, ?_⟩
  show _ ≤ 1073741824 * satv (rnd (((0 : Int) + satv c * satv d) + satv a * satv b) (30 : Int).toNat) - _ ∧ 1073741824 * satv (rnd (((0 : Int) + satv c * satv d) + satv a * satv b) (30 : Int).toNat) - _ ≤ _
  rw [satv_id (a := a) (by unfold mx; omega) (by unfold mx; omega), satv_id (a := b) (by unfold mx; omega) (by unfold mx; omega), satv_id (a := c) (by unfold mx; omega) (by unfold mx; omega), satv_id (a := d) (by unfold mx; omega) (by unfold mx; omega)]
  have k := bil a1 a2 b1 b2
  have k' := bil c1 c2 d1 d2
  have hr := rnd_nr (((0 : Int) + c * d) + a * b) 30
  have e : ((2 ^ 30 : Nat) : Int) = 1073741824 := by decide
  have e' : (30 : Int).toNat = 30 := by decide
  rw [e] at hr
  rw [e', satv_id (by unfold mx; omega) (by unfold mx; omega)]
  omega
theorem U18s {a b c d : Int} (a1 : -1073743000 ≤ a) (a2 : a ≤ 1073743000) (b1 : -1073743000 ≤ b) (b2 : b ≤ 1073743000) (c1 : -1073743000 ≤ c) (c2 : c ≤ 1073743000) (d1 : -1073743000 ≤ d) (d2 : d ≤ 1073743000) :
    ∃ y, U 18 [30, 1, a, b, c, d] = y ∧ -536870912 ≤ 1073741824 * y - (a * b - c * d) ∧ 1073741824 * y - (a * b - c * d) ≤ 536870912 := by
  refine ⟨_, rfl, ?_⟩
  show _ ≤ 1073741824 * satv (rnd (((0 : Int) + satv a * satv b) - (0 + satv c * satv d)) (30 : Int).toNat) - _ ∧ 1073741824 * satv (rnd (((0 : Int) + satv a * satv b) - (0 + satv c * satv d)) (30 : Int).toNat) - _ ≤ _
  rw [satv_id (a := a) (by unfold mx; omega) (by unfold mx; omega), satv_id (a := b) (by unfold mx; omega) (by unfold mx; omega), satv_id (a := c) (by unfold mx; omega) (by unfold mx; omega), satv_id (a := d) (by unfold mx; omega) (by unfold mx; omega)]
  have k := bil a1 a2 b1 b2
  have k' := bil c1 c2 d1 d2
  have hr := rnd_nr (((0 : Int) + a * b) - (0 + c * d)) 30
  have e : ((2 ^ 30 : Nat) : Int) = 1073741824 := by decide
  have e' : (30 : Int).toNat = 30 := by decide
  rw [e] at hr
  rw [e', satv_id (by unfold mx; omega) (by unfold mx; omega)]
  omega
/-- The product of two that are near. -/
theorem prod_sc {u v p q : Int} (u1 : -36561 ≤ 16384 * u - p) (u2 : 16384 * u - p ≤ 36561) (v1 : -36561 ≤ 16384 * v - q) (v2 : 16384 * v - q ≤ 36561) (p1 : -17592186044418 ≤ p) (p2 : p ≤ 17592186044418) (q1 : -17592186044418 ≤ q) (q2 : q ≤ 17592186044418) :
    -(73123 * 17592186044416) ≤ 268435456 * (u * v) - p * q ∧ 268435456 * (u * v) - p * q ≤ 73123 * 17592186044416 := by
  have k := prod_near (u := 16384 * u) (v := 16384 * v) u1 u2 v1 v2 (by decide) p1 p2 q1 q2
  have e : 16384 * u * (16384 * v) = 268435456 * (u * v) := by grind
  rw [e] at k
  omega
theorem cosF_w {a : Int} : -36561 ≤ 16384 * sinF (1686629713 + wrapT a) - cT (wrapT a) ∧ 16384 * sinF (1686629713 + wrapT a) - cT (wrapT a) ≤ 36561 := by
  have i := wrapT_in a
  exact cosF_in i.1 i.2
theorem near_in {s t : Int} (h1 : -36561 ≤ 16384 * s - t) (h2 : 16384 * s - t ≤ 36561) (t1 : -17592186044418 ≤ t) (t2 : t ≤ 17592186044418) : -1073743000 ≤ s ∧ s ≤ 1073743000 := by omega
/-- The sine and the cosine of a sum. -/
theorem sums_num {a b sa ca sb cb y z : Int} (a1 : -4294967296 ≤ a) (a2 : a ≤ 4294967296) (b1 : -4294967296 ≤ b) (b2 : b ≤ 4294967296)
    (hsa : sa = sinF a) (hsb : sb = sinF b) (hca : ca = sinF (1686629713 + wrapT a)) (hcb : cb = sinF (1686629713 + wrapT b))
    (hy : y = U 16 [30, sa, cb, ca, sb]) (hz : z = U 18 [30, 1, sa, sb, ca, cb]) :
    (-200 ≤ y - sinF (a + b) ∧ y - sinF (a + b) ≤ 200) ∧ -200 ≤ z + sinF (1686629713 + wrapT (a + b)) ∧ z + sinF (1686629713 + wrapT (a + b)) ≤ 200 := by
  have fa := sinF_w (a := a) (by omega) (by omega)
  have fb := sinF_w (a := b) (by omega) (by omega)
  have ga := cosF_w (a := a)
  have gb := cosF_w (a := b)
  have fs := sinF_w (a := a + b) (by omega) (by omega)
  have gs := cosF_w (a := a + b)
  rw [← hsa] at fa
  rw [← hsb] at fb
  rw [← hca] at ga
  rw [← hcb] at gb
  have st := sums_T (a := a) (b := b)
  have i := wrapT_in a
  have j := wrapT_in b
  have k1 := sum_s (x := wrapT a) (y := wrapT b) (by omega) (by omega) (by omega) (by omega)
  have k2 := sum_c (x := wrapT a) (y := wrapT b) (by omega) (by omega) (by omega) (by omega)
  have ba := sT_in (x := wrapT a) (by omega) (by omega)
  have bb := sT_in (x := wrapT b) (by omega) (by omega)
  have da := cT_in (x := wrapT a) (by omega) (by omega)
  have db := cT_in (x := wrapT b) (by omega) (by omega)
  generalize sT (wrapT (a + b)) = S at *
  generalize cT (wrapT (a + b)) = C at *
  generalize sT (wrapT a + wrapT b) = S' at *
  generalize cT (wrapT a + wrapT b) = C' at *
  generalize sT (wrapT a) = p at *
  generalize sT (wrapT b) = q at *
  generalize cT (wrapT a) = u at *
  generalize cT (wrapT b) = v at *
  generalize sinF (a + b) = Y at *
  generalize sinF (1686629713 + wrapT (a + b)) = Z at *
  clear hsa hsb hca hcb i j a1 a2 b1 b2
  have n1 := near_in fa.1 fa.2 (by omega) (by omega)
  have n2 := near_in fb.1 fb.2 (by omega) (by omega)
  have n3 := near_in ga.1 ga.2 (by omega) (by omega)
  have n4 := near_in gb.1 gb.2 (by omega) (by omega)
  have p1 := prod_sc fa.1 fa.2 gb.1 gb.2 (by omega) (by omega) (by omega) (by omega)
  have p2 := prod_sc ga.1 ga.2 fb.1 fb.2 (by omega) (by omega) (by omega) (by omega)
  have p3 := prod_sc fa.1 fa.2 fb.1 fb.2 (by omega) (by omega) (by omega) (by omega)
  have p4 := prod_sc ga.1 ga.2 gb.1 gb.2 (by omega) (by omega) (by omega) (by omega)
  obtain ⟨y', e1, y1, y2⟩ := U16s n1.1 n1.2 n4.1 n4.2 n3.1 n3.2 n2.1 n2.2
  obtain ⟨z', e2, z1, z2⟩ := U18s n1.1 n1.2 n2.1 n2.2 n3.1 n3.2 n4.1 n4.2
  obtain rfl : y = y' := hy.trans e1
  obtain rfl : z = z' := hz.trans e2
  clear e1 e2 hy hz n1 n2 n3 n4 fa fb ga gb ba bb da db
  generalize sa * cb = A1 at *
  generalize ca * sb = A2 at *
  generalize sa * sb = A3 at *
  generalize ca * cb = A4 at *
  generalize p * v = B1 at *
  generalize u * q = B2 at *
  generalize p * q = B3 at *
  generalize u * v = B4 at *
  constructor
  · clear z1 z2 p3 p4 k2 gs
    omega
  · clear y1 y2 p1 p2 k1 fs
    omega
/-- It rises. -/
theorem rises_num {a b : Int} (a1 : -1686629713 ≤ a) (b1 : b ≤ 1686629713) (h : a ≤ b) : sinF a ≤ sinF b + 64 := by
  have k := rises_T a1 b1 h
  have fa := sinF_in (w := a) (by omega) (by omega)
  have fb := sinF_in (w := b) (by omega) (by omega)
  omega
theorem falls_num {a b : Int} (a1 : 0 ≤ a) (b1 : b ≤ 1686629713) (h : a ≤ b) : sinF (1686629713 + b) ≤ sinF (1686629713 + a) + 64 := by
  have k := falls_T a1 b1 h
  have fa := cosF_in (w := a) (by omega) (by omega)
  have fb := cosF_in (w := b) (by omega) (by omega)
  omega
/-- The angle's sine and cosine, minus the angle's, and a whole turn on. -/
theorem circle_num {a s k : Int} (a1 : -8589934592 ≤ a) (a2 : a ≤ 8589934592) (hs : s = sinF a) (hk : k = sinF (1686629713 + wrapT a)) :
    (∃ y, U 16 [30, s, s, k, k] = y ∧ -100 ≤ y - 1073741824 ∧ y - 1073741824 ≤ 100) ∧ sinF (-a) = -s ∧ (-4 ≤ sinF (1686629713 + wrapT (-a)) - k ∧ sinF (1686629713 + wrapT (-a)) - k ≤ 4) ∧ sinF (a + 6746518852) = s ∧
      (-3373259426 ≤ atanF s k ∧ atanF s k ≤ 3373259426) ∧ -200 ≤ wrapT (atanF s k - a) ∧ wrapT (atanF s k - a) ≤ 200 := by
  have i := wrapT_in a
  have j := wrapT_in (-a)
  have fa := sinF_w (a := a) (by omega) (by omega)
  have ga := cosF_w (a := a)
  have gn := cosF_w (a := -a)
  rw [← hs] at fa
  rw [← hk] at ga
  have ci := circle_T (w := wrapT a) (by omega) (by omega) fa.1 fa.2 ga.1 ga.2
  have bs := sT_in (x := wrapT a) (by omega) (by omega)
  have bc := cT_in (x := wrapT a) (by omega) (by omega)
  have n1 := near_in fa.1 fa.2 (by omega) (by omega)
  have n2 := near_in ga.1 ga.2 (by omega) (by omega)
  obtain ⟨p, hp⟩ := wrapT_mod a
  obtain ⟨q, hq⟩ := wrapT_mod (-a)
  refine ⟨?_, ?_, ?_, ?_, ?_⟩
  · obtain ⟨y, e, y1, y2⟩ := U16s n1.1 n1.2 n1.1 n1.2 n2.1 n2.2 n2.1 n2.2
    exact ⟨y, e, by omega, by omega⟩
  · rw [hs]; exact sinF_odd (by omega) (by omega)
  · have e : wrapT (-a) = -wrapT a ∨ (wrapT a = 3373259426 ∧ wrapT (-a) = 3373259426) := by omega
    rcases e with e | ⟨e1, e2⟩
    · rw [e, cT_neg] at gn
      rw [e]
      omega
    · rw [e2] at gn ⊢
      rw [e1] at ga
      omega
  · have t : wrapT (a + 6746518852) = wrapT a := wrapT_turn (k := 1) (by omega)
    rw [hs, sinF_eq, sinF_eq, satv_id (a := a) (by unfold mx; omega) (by unfold mx; omega), satv_id (a := a + 6746518852) (by unfold mx; omega) (by unfold mx; omega), t]
  · obtain ⟨h1, z, hz, z1, z2, z3, z4⟩ := angle_T (w := wrapT a) (F := 36561) (by omega) (by omega) (by decide) fa.1 fa.2 ga.1 ga.2
    refine ⟨h1, ?_⟩
    have zz : -20 ≤ z ∧ z ≤ 20 := by omega
    have e : wrapT (atanF s k - a) = z := by
      have t : wrapT (atanF s k - a) = wrapT z := by
        rcases hz with hz | hz | hz
        · exact wrapT_turn (k := -p) (by omega)
        · exact wrapT_turn (k := 1 - p) (by omega)
        · exact wrapT_turn (k := -1 - p) (by omega)
      rw [t]
      exact wrapT_id (by omega) (by omega)
    omega
end Go.Proofs.Ytbpccdagmaiblaa.Tr
