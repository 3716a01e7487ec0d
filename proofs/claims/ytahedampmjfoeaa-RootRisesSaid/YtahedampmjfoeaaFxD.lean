/- Package fx: a quotient; sums; sums of products; flags taken over. -/
import Derived.Test.YtahedampmjfoeaaFxC
import Derived.Test.YtahedampmjfoeaaLawA
namespace Go.Proofs.Ytahedampmjfoeaa
open Go.RowKit

theorem shift_in (a : Int) (s : Nat) (hs : s ≤ 66) : InW (satv a * 2 ^ s) := by
  have h1 := satv_lo a
  have h2 := satv_hi a
  have e : ((2 : Int) ^ s) = ((2 ^ s : Nat) : Int) := by simp
  have h3 : 2 ^ s ≤ 73786976294838206464 := pow_lt s 66 hs
  rw [e]
  generalize 2 ^ s = q at *
  have h4 : (satv a * (q : Int)).natAbs ≤ 1152921504606846976 * 73786976294838206464 := by
    rw [Int.natAbs_mul]
    exact Nat.mul_le_mul (by omega) (by omega)
  generalize satv a * (q : Int) = x at *
  exact ⟨by omega, by omega⟩
set_option maxHeartbeats 1000000 in
theorem div_fx (p o : Nat) (a b : Int) (s : Nat) (h : Bool) (w : World) (f : Fl p o h w) (hs : s ≤ 66) :
    Calls Try.prog 43 #[.pointer (some ⟨p, o, none⟩), .int .i64 a, .int .i64 b, .int .i64 s] w fun e w' => e = .returned (.int .i64 (divv (satv a * 2 ^ s) (satv b))) ∧ FlW p o (h || sath a || sath b || divh (satv a * 2 ^ s) (satv b)) w w' := by
  have g1 : ¬ (s : Int) < 0 := by omega
  have g2 : ¬ (66 : Int) < s := by omega
  have l1 := satv_lo a
  have l2 := satv_hi a
  have l3 := satv_lo b
  have l4 := satv_hi b
  go_enter Try.func43, Try.ntmps43
  go_wp2_with fail
  refine (sat_any p o a h _ f).mono ?_
  rintro e w1 ⟨rfl, k1⟩
  have f1 := k1.fl f
  go_wp2_with fail
  refine (wshift_yes (satv a) s _ (by omega) (by omega) (by omega) (shift_in a s hs)).mono ?_
  rintro e w2 ⟨rfl, hb⟩
  have k2 := k1.then hb
  have f2 := f1.below hb
  clear k1 f1 hb
  go_upto_region 1 with (fail)
  have hV := shift_in a s hs
  generalize hVe : satv a * 2 ^ s = V at *
  have HVe := Lib.hid hVe
  clear hVe
  generalize hW : World.alloc w2 _ = W
  obtain ⟨a0, a1⟩ : W.cell? ⟨w2.heap.size, 0, none⟩ = some (.int .i64 (wh V)) ∧ W.cell? ⟨w2.heap.size, 1, none⟩ = some (.int .u64 (wl V)) := by subst hW; exact box_at rfl
  have hz : w2.heap.size < W.heap.size := by subst hW; simp
  have k3 : FlW p o (h || sath a) w W := by subst hW; exact k2.alloc _
  have f3 : Fl p o (h || sath a) W := by subst hW; exact f2.alloc _
  have hne : w2.heap.size ≠ p := (by have := f2.lt; omega)
  clear hW k2 f2
  go_region_held3 (fun w' => FExt p W w')
    ((show FExt p W _; first | (with_reducible exact FExt.start p W) | (with_reducible exact hJ)))
    (first
      | (go_at_call 35; refine (sat_any p o b _ _ (by first | exact f3 | exact f3.drew)).mono ?_; rintro e w4 ⟨rfl, kk⟩; have hJ := FExt.flag (by assumption) kk)
      | (go_at_call 77; refine (divide_fx p o V (satv b) _ _ (by first | exact kk.fl f3 | exact kk.fl f3.drew) hV (by omega) (by omega)).mono ?_; rintro e w5 ⟨rfl, kl⟩; have hJ := FExt.flag (by assumption) kl))
  go_wp2_with fail
  go_ret
  exact ⟨ret_int (by rw [HVe.out]), flag_is (by rw [HVe.out]) ((k3.drew.trans kk).trans kl)⟩
theorem div_out (p o : Nat) (a b s : Int) (h : Bool) (w : World) (f : Fl p o h w) (hs : s < 0 ∨ 66 < s) :
    Calls Try.prog 43 #[.pointer (some ⟨p, o, none⟩), .int .i64 a, .int .i64 b, .int .i64 s] w fun e w' => e = .returned (.int .i64 0) ∧ FlW p o true w w' := by
  obtain ⟨fc, ff, fl⟩ := f
  by_cases g1 : s < 0
  · go_enter Try.func43, Try.ntmps43
    go_wp2
    go_ret
    exact ⟨rfl, FlW.set _ _⟩
  · have g2 : 66 < s := by omega
    go_enter Try.func43, Try.ntmps43
    go_wp2
    go_ret
    exact ⟨rfl, FlW.set _ _⟩
end Go.Proofs.Ytahedampmjfoeaa
