/- Proved here: multiplying by One is nothing, by One and a power of two shifts, dividing by itself is One; for every input. -/
import Derived.Test.YtfofhambacmpbaaAwakeF
import Derived.Test.YtfofhambacmpbaaLift
import Derived.Test.YtfofhambacmpbaaFxM
namespace Go.Proofs.Ytfofhambacmpbaa.fxHalves
open Go.RowKit
theorem mul_keeps (a m : Int) (s : Nat) (v : Int) (a1 : -1152921504606846976 ≤ a) (a2 : a ≤ 1152921504606846976) (m1 : -1152921504606846976 ≤ m) (m2 : m ≤ 1152921504606846976) (hv : rnd (a * m) s = v) (v1 : -1152921504606846976 ≤ v) (v2 : v ≤ 1152921504606846976) :
    satv (rnd (satv a * satv m) s) = v ∧ (sath a || sath m || sath (rnd (satv a * satv m) s)) = false := by
  obtain ⟨e1, e2⟩ := satv_in a1 a2
  obtain ⟨e3, e4⟩ := satv_in m1 m2
  rw [e1, e2, e3, e4, hv]
  obtain ⟨e5, e6⟩ := satv_in v1 v2
  rw [e5, e6]
  exact ⟨rfl, rfl⟩
theorem half_pow (k : Nat) (hk : k ≤ 20) : (1073741824 : Int) / 2 ^ k = 2 ^ (30 - k) := by
  have h : (1073741824 : Int) = 2 ^ (30 - k) * 2 ^ k := by
    rw [← Int.pow_add, show 30 - k + k = 30 by omega]; decide
  rw [h]
  exact Int.mul_ediv_cancel _ (by have : (0 : Int) < 2 ^ k := Int.pow_pos (by decide); omega)
theorem pow_bd (j : Nat) (hj : j ≤ 30) : -1152921504606846976 ≤ (2 : Int) ^ j ∧ (2 : Int) ^ j ≤ 1152921504606846976 := by
  have e : ((2 : Int) ^ j) = ((2 ^ j : Nat) : Int) := by simp
  have h : 2 ^ j ≤ 1073741824 := pow_lt j 30 hj
  rw [e]
  clear e
  generalize 2 ^ j = q at *
  omega
theorem div_self (a : Int) (a0 : a ≠ 0) (a1 : -1152921504606846976 ≤ a) (a2 : a ≤ 1152921504606846976) :
    divv (satv a * 2 ^ 30) (satv a) = 1073741824 ∧ (sath a || sath a || divh (satv a * 2 ^ 30) (satv a)) = false := by
  obtain ⟨e1, e2⟩ := satv_in a1 a2
  rw [e1, e2]
  unfold divv divh
  rw [if_neg a0, if_neg a0, show a * 2 ^ 30 = 2 ^ 30 * a from Int.mul_comm _ _, divZ_even _ _ a0]
  exact ⟨by decide, by decide⟩
theorem seven (a : Int) (a1 : -1152921504606846976 ≤ a) (a2 : a ≤ 1152921504606846976) :
    divv (satv a * satv 7) (satv 7) = a ∧ (sath a || sath 7 || (sath 7 || divh (satv a * satv 7) (satv 7))) = false := by
  obtain ⟨e1, e2⟩ := satv_in a1 a2
  obtain ⟨e3, e4⟩ := satv_in (a := 7) (by decide) (by decide)
  rw [e1, e2, e3, e4]
  unfold divv divh
  rw [if_neg (by decide), if_neg (by decide), divZ_even _ _ (by decide), e1, e2]
  exact ⟨rfl, rfl⟩
set_option maxRecDepth 100000 in
set_option maxHeartbeats 4000000 in
theorem walk (a0 : Int) (w0 : (Lit.int .i64 a0).wf = true) (k : Int) (w1 : (Lit.int .i64 k).wf = true) (w : World) :
    Calls Try.prog 16 #[.int .i64 a0, .int .i64 k] w fun e w' => e = .returned (.bool true) ∧ Below w.heap.size w w' := by
  clear w0 w1
  have a1 := satv_lo a0
  have a2 := satv_hi a0
  by_cases hk : k < 0 ∨ 20 < k
  · have hd : k < 0 ∨ (¬ k < 0 ∧ 20 < k) := by omega
    clear hk
    rcases hd with h | ⟨h, h'⟩
    all_goals
      go_enter Try.func16, Try.ntmps16
      go_wp2_with fail
      refine (awakeF_any _).mono ?_
      rintro e w1 ⟨rfl, hB⟩
      go_wp2_with fail
      generalize hW : World.alloc w1 _ = W
      have f : Fl w1.heap.size 0 false W := by subst hW; exact Fl.made _ _ _
      have hl := hB.size
      have hB : Below w.heap.size w W := by subst hW; exact hB.alloc hB.size _
      clear hW
      refine (sat_any w1.heap.size 0 a0 false _ f).mono ?_
      rintro e w2 ⟨rfl, k⟩
      have hB := hB.trans (k.below hB.size hl)
      clear k
      go_wp2_with fail
      go_ret
      exact ⟨rfl, hB.alloc hB.size _⟩
  · obtain ⟨k, rfl⟩ : ∃ j : Nat, k = j := ⟨k.toNat, by omega⟩
    have k1 : ¬ (k : Int) < 0 := by omega
    have k2 : ¬ (20 : Int) < k := by omega
    have k0 : (0 : Int) ≤ k := by omega
    have hk20 : k ≤ 20 := by omega
    clear hk
    generalize hae : satv a0 = a at *
    have HA := Lib.hid hae
    clear hae
    have hp := pow_bd (30 - k) (by omega)
    have hr := rnd_within (k := 1152921504606846976) k a1 a2
    have M1 := Lib.hid (mul_keeps a (2 ^ (30 - k)) 30 (rnd a k) a1 a2 hp.1 hp.2 (by have := rnd_up a k (30 - k); rw [show k + (30 - k) = 30 by omega] at this; exact this) hr.1 hr.2)
    have M2 := Lib.hid (mul_keeps a 1 k (rnd a k) a1 a2 (by decide) (by decide) (by rw [Int.mul_one]) hr.1 hr.2)
    have M3 := Lib.hid (mul_keeps a 1073741824 30 a a1 a2 (by decide) (by decide) (by have := rnd_up a 0 30; rw [rnd_none] at this; exact this) a1 a2)
    have M4 := Lib.hid (seven a a1 a2)
    have HP := Lib.hid (half_pow k hk20)
    have hp1 := hp.1
    have hp2 := hp.2
    have hr0 := rnd_within (k := 0) (v := 0) k (by decide) (by decide)
    clear hp hr
    by_cases hz : a = 0
    · subst hz
      have HZ := Lib.hid (show rnd 0 k = 0 by have := hr0.1; have := hr0.2; omega)
      clear M1 M2 M3 M4
      have M1 := Lib.hid (mul_keeps 0 (2 ^ (30 - k)) 30 0 a1 a2 hp1 hp2 (by rw [Int.zero_mul]; decide) (by decide) (by decide))
      have M2 := Lib.hid (mul_keeps 0 1 k 0 a1 a2 (by decide) (by decide) (by rw [Int.zero_mul, HZ.out]) (by decide) (by decide))
      have M3 := Lib.hid (mul_keeps 0 1073741824 30 0 a1 a2 (by decide) (by decide) (by decide) a1 a2)
      have M4 := Lib.hid (seven 0 a1 a2)
      clear hp1 hp2 hr0 a1 a2
      go_enter Try.func16, Try.ntmps16
      go_wp2_with fail
      refine (awakeF_any _).mono ?_
      rintro e w1 ⟨rfl, hB⟩
      go_wp2_with fail
      generalize hW : World.alloc w1 _ = W
      have f : Fl w1.heap.size 0 false W := by subst hW; exact Fl.made _ _ _
      have hl := hB.size
      have hB : Below w.heap.size w W := by subst hW; exact hB.alloc hB.size _
      clear hW
      refine (sat_any w1.heap.size 0 a0 false _ f).mono ?_
      rintro e w2 ⟨rfl, kk⟩
      have hB := hB.trans (kk.below hB.size hl)
      clear kk f hl
      rw [HA.out]
      go_wp2_with fail
      rw [HP.out]
      generalize hX : World.alloc w2 _ = X
      have f : Fl w2.heap.size 0 false X := by subst hX; exact Fl.made _ _ _
      have hl := hB.size
      have hB : Below w.heap.size w X := by subst hX; exact hB.alloc hB.size _
      clear hX
      refine (mul_ok w2.heap.size 0 0 (2 ^ (30 - k)) 30 0 false _ f (by decide) M1.out.1 M1.out.2).mono ?_
      rintro e w3 ⟨rfl, kk⟩
      have f := kk.fl f
      have hB := hB.trans (kk.below hB.size hl)
      clear kk
      go_wp2_with fail
      refine (mul_ok w2.heap.size 0 0 1 k 0 false _ f (by omega) M2.out.1 M2.out.2).mono ?_
      rintro e w4 ⟨rfl, kk⟩
      have f := kk.fl f
      have hB := hB.trans (kk.below hB.size hl)
      clear kk
      go_wp2_with fail
      refine (mul_ok w2.heap.size 0 0 1073741824 30 0 false _ f (by decide) M3.out.1 M3.out.2).mono ?_
      rintro e w5 ⟨rfl, kk⟩
      have f := kk.fl f
      have hB := hB.trans (kk.below hB.size hl)
      clear kk
      go_wp2_with fail
      refine (muldiv_ok w2.heap.size 0 0 7 7 0 false _ f M4.out.1 M4.out.2).mono ?_
      rintro e w7 ⟨rfl, kk⟩
      have f := kk.fl f
      have hB := hB.trans (kk.below hB.size hl)
      have fc := f.cell
      clear kk
      go_wp2_with fail
      go_ret
      exact ⟨rfl, hB⟩
    · have M5 := Lib.hid (div_self a hz a1 a2)
      clear hp1 hp2 hr0
      have t1 : (a == 0) = false := beq_eq_false_iff_ne.2 hz
      clear hz
      go_enter Try.func16, Try.ntmps16
      go_wp2_with fail
      refine (awakeF_any _).mono ?_
      rintro e w1 ⟨rfl, hB⟩
      go_wp2_with fail
      generalize hW : World.alloc w1 _ = W
      have f : Fl w1.heap.size 0 false W := by subst hW; exact Fl.made _ _ _
      have hl := hB.size
      have hB : Below w.heap.size w W := by subst hW; exact hB.alloc hB.size _
      clear hW
      refine (sat_any w1.heap.size 0 a0 false _ f).mono ?_
      rintro e w2 ⟨rfl, kk⟩
      have hB := hB.trans (kk.below hB.size hl)
      clear kk f hl
      rw [HA.out]
      go_wp2_with fail
      rw [HP.out]
      generalize hX : World.alloc w2 _ = X
      have f : Fl w2.heap.size 0 false X := by subst hX; exact Fl.made _ _ _
      have hl := hB.size
      have hB : Below w.heap.size w X := by subst hX; exact hB.alloc hB.size _
      clear hX
      refine (mul_ok w2.heap.size 0 a (2 ^ (30 - k)) 30 (rnd a k) false _ f (by decide) M1.out.1 M1.out.2).mono ?_
      rintro e w3 ⟨rfl, kk⟩
      have f := kk.fl f
      have hB := hB.trans (kk.below hB.size hl)
      clear kk
      go_wp2_with fail
      refine (mul_ok w2.heap.size 0 a 1 k (rnd a k) false _ f (by omega) M2.out.1 M2.out.2).mono ?_
      rintro e w4 ⟨rfl, kk⟩
      have f := kk.fl f
      have hB := hB.trans (kk.below hB.size hl)
      clear kk
      go_wp2_with fail
      refine (mul_ok w2.heap.size 0 a 1073741824 30 a false _ f (by decide) M3.out.1 M3.out.2).mono ?_
      rintro e w5 ⟨rfl, kk⟩
      have f := kk.fl f
      have hB := hB.trans (kk.below hB.size hl)
      clear kk
      go_wp2_with fail
      refine (div_ok w2.heap.size 0 a a 30 1073741824 false _ f (by decide) M5.out.1 M5.out.2).mono ?_
      rintro e w6 ⟨rfl, kk⟩
      have f := kk.fl f
      have hB := hB.trans (kk.below hB.size hl)
      clear kk
      go_wp2_with fail
      refine (muldiv_ok w2.heap.size 0 a 7 7 a false _ f M4.out.1 M4.out.2).mono ?_
      rintro e w7 ⟨rfl, kk⟩
      have f := kk.fl f
      have hB := hB.trans (kk.below hB.size hl)
      have fc := f.cell
      clear kk
      go_wp2_with fail
      go_ret
      exact ⟨rfl, hB⟩
end Go.Proofs.Ytfofhambacmpbaa.fxHalves
