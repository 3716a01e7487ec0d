/- The difference of two sizes, whether one size is less than another, whether a size is 0. -/
import Derived.Test.YtahedampmjfoeaaChecked
import Derived.Test.YtahedampmjfoeaaNum
import Derived.Deep.QuietTactic
import Derived.BigQuiet
import Derived.StillTailTactics
import Derived.Deep.LoopGhost
namespace Go.Proofs.Ytahedampmjfoeaa
open Go.RowKit

set_option maxHeartbeats 1000000 in
theorem minus_any (m n : Nat) (w : World) (hmn : n ≤ m) :
    Calls Try.prog 63 #[A8 m, A8 n] w fun e w' => e = .returned (A8 (m - n)) ∧ Below w.heap.size w w' := by
  go_enter Try.func63, Try.ntmps63
  go_wp2
  go_loopw [5, 6] (fun c i wr => ∃ k : Nat, k ≤ 8 ∧ i = .int .i64 k ∧ c = .int .u64 (bw m n k) ∧ Has8 wr 29 w.heap.size (mix (dg (m - n)) (dg m) k) ∧ Has8 wr 29 (w.heap.size + 1) (dg n) ∧ Has8 wr 29 (w.heap.size + 2) (fun _ => 0) ∧ Below w.heap.size w wr) (fun _ i _ => 8 - (intOf i).toNat)
  case atStart =>
    refine ⟨0, by omega, rfl, by rw [bw_zero], ?_, ?_, ?_, ?_⟩
    · exact ((((Has8.made w _ (dg m)).alloc _).alloc _).congr fun j _ => (mix_zero _ _ j).symm)
    · exact (Has8.made_at _ _ (by simp) (dg n)).alloc _
    · exact Has8.made_at _ _ (by simp) (fun _ => 0)
    · exact (((Below.refl _ _).alloc (by omega) _).alloc (by simp) _).alloc (by simp; omega) _
  case round =>
    obtain ⟨k, hk, rfl, rfl, ha, hb, hc, hB⟩ := hrel
    by_cases hlt : k < 8
    · have a1 := ha.cell k hlt
      have b1 := hb.cell k hlt
      have f1 := ha.free k
      rw [mix_at] at a1
      have h0 : (0 : Int) ≤ k := by omega
      have h8 : (k : Int) < 8 := by omega
      have H := Lib.hid (sub_out m n k hmn)
      have hw1 : 0 ≤ IntKind.u64.wrap (IntKind.u64.wrap (dg m k - dg n k) - bw m n k) := by rw [IntKind.wrap_u64]; omega
      have hw2 : IntKind.u64.wrap (IntKind.u64.wrap (dg m k - dg n k) - bw m n k) < 18446744073709551616 := by rw [IntKind.wrap_u64]; omega
      have HW := Lib.hid (And.intro hw1 hw2)
      clear hw1 hw2
      go_wp2
      go_quiet (fail)
      go_wp2
      go_roundw
      case rel =>
        refine ⟨k + 1, by omega, by go_num, by rw [H.out.2], ?_, ?_, ?_, ?_⟩
        · rw [and_mask _ HW.out.1 HW.out.2, H.out.1]
          exact (ha.drewN.set k hlt _).congr fun j _ => mix_upd _ _ k j
        · exact hb.drewN.other (by simp) _
        · exact hc.drewN.other (by simp) _
        · exact (below_drewN hB _).setCell (by simp) _
      case measure => simp [intOf]; omega
    · obtain rfl : k = 8 := by omega
      obtain ⟨a0, a1, a2, a3, a4, a5, a6, a7⟩ := ha.cells
      obtain ⟨c0, c1, c2, c3, c4, c5, c6, c7⟩ := hc.cells
      have g := hc.free
      rw [mix_all _ _ _ _ (by omega)] at a0 a1 a2 a3 a4 a5 a6 a7
      go_wp2
      exact bodyPost_ret (v := A8 (m - n)) (by simp [results, Try.results63, go_sem, c0, c1, c2, c3, c4, c5, c6, c7]) rfl ⟨rfl, (((((((hB.setCell (by simp; omega) _).setCell (by simp; omega) _).setCell (by simp; omega) _).setCell (by simp; omega) _).setCell (by simp; omega) _).setCell (by simp; omega) _).setCell (by simp; omega) _).setCell (by simp; omega) _⟩

theorem ret_bool {a b : Bool} (h : a = b) : Ending.returned (.bool a) = .returned (.bool b) := by rw [h]
set_option maxHeartbeats 1000000 in
theorem less_any (m n : Nat) (w : World) (hm : m < B8) (hn : n < B8) :
    Calls Try.prog 62 #[A8 m, A8 n] w fun e w' => e = .returned (.bool (decide (m < n))) ∧ Below w.heap.size w w' := by
  go_enter Try.func62, Try.ntmps62
  go_wp2
  go_loopw [5] (fun i wr => ∃ k : Nat, k ≤ 8 ∧ i = .int .i64 ((k : Int) - 1) ∧ Hid (m / 4294967296 ^ k = n / 4294967296 ^ k) ∧ Has8 wr 29 w.heap.size (dg m) ∧ Has8 wr 29 (w.heap.size + 1) (dg n) ∧ Below w.heap.size w wr) (fun i _ => (intOf i + 1).toNat)
  case atStart =>
    refine ⟨8, by omega, rfl, less_top m n hm hn, ?_, ?_, ?_⟩
    · exact (Has8.made w _ (dg m)).alloc _
    · exact Has8.made_at _ _ (by simp) (dg n)
    · exact ((Below.refl _ _).alloc (by omega) _).alloc (by simp) _
  case round =>
    obtain ⟨k, hk, rfl, H, ha, hb, hB⟩ := hrel
    by_cases hlt : k = 0
    · subst hlt
      have hF : (0 : Int) ≤ ((0 : Nat) : Int) - 1 ↔ False := by simp
      go_wp2
      go_ret
      exact ⟨ret_bool (less_end m n H.out).symm, hB⟩
    · obtain ⟨j, rfl⟩ : ∃ j, k = j + 1 := ⟨k - 1, by omega⟩
      have hj : j < 8 := by omega
      have a1 := ha.cell j hj
      have b1 := hb.cell j hj
      rw [show (((j + 1 : Nat) : Int) - 1) = (j : Int) by omega]
      have h0 : (0 : Int) ≤ j := by omega
      have h8 : (j : Int) < 8 := by omega
      clear hlt
      by_cases hd : dg m j = dg n j
      · have H2 : Hid (m / 4294967296 ^ j = n / 4294967296 ^ j) := less_eq m n j H.out hd
        have hx : (dg m j != dg n j) = false := by simp [hd]
        have hx2 : (dg m j == dg n j) = true := by simp [hd]
        clear hd
        go_wp2
        go_quiet (fail)
        go_wp2
        go_roundw
        case rel => exact ⟨j, by omega, rfl, H2, ha.drewN, hb.drewN, below_drewN hB _⟩
        case measure => simp [intOf]
      · have HE := Lib.hid (less_ne m n j H.out hd)
        have hx : (dg m j != dg n j) = true := by simp [hd]
        have hx2 : (dg m j == dg n j) = false := by simp [hd]
        clear hd
        go_wp2
        go_quiet (fail)
        go_wp2
        go_quiet (fail)
        go_wp2
        go_ret
        exact ⟨ret_bool HE.out, below_drewN (below_drewN hB _) _⟩

set_option maxHeartbeats 1000000 in
theorem zero_any (n : Nat) (w : World) (hn : n < B8) :
    Calls Try.prog 66 #[A8 n] w fun e w' => e = .returned (.bool (decide (n = 0))) ∧ Below w.heap.size w w' := by
  go_enter Try.func66, Try.ntmps66
  go_wp2
  go_loopw [3] (fun i wr => ∃ k : Nat, k ≤ 8 ∧ i = .int .i64 (k : Int) ∧ Hid (n % 4294967296 ^ k = 0) ∧ Has8 wr 29 w.heap.size (dg n) ∧ Below w.heap.size w wr) (fun i _ => 8 - (intOf i).toNat)
  case atStart =>
    refine ⟨0, by omega, rfl, Nat.mod_one n, ?_, ?_⟩
    · exact (Has8.made w _ (dg n))
    · exact ((Below.refl _ _).alloc (by omega) _)
  case round =>
    obtain ⟨k, hk, rfl, H, ha, hB⟩ := hrel
    by_cases hlt : k < 8
    · have a1 := ha.cell k hlt
      have h0 : (0 : Int) ≤ k := by omega
      have h8 : (k : Int) < 8 := by omega
      by_cases hd : dg n k = 0
      · have H2 : Hid (n % 4294967296 ^ (k + 1) = 0) := zero_step n k H.out hd
        have hx : (dg n k != 0) = false := by simp [hd]
        have hx2 : (dg n k == 0) = true := by simp [hd]
        clear hd
        go_wp2
        go_roundw
        case rel => exact ⟨k + 1, by omega, by go_num, H2, ha, hB⟩
        case measure => simp [intOf]; omega
      · have HE := Lib.hid (zero_ne n k hd)
        have hx : (dg n k != 0) = true := by simp [hd]
        have hx2 : (dg n k == 0) = false := by simp [hd]
        clear hd
        go_wp2
        go_ret
        exact ⟨ret_bool HE.out.symm, hB⟩
    · obtain rfl : k = 8 := by omega
      have HE := Lib.hid (zero_end n hn H.out)
      go_wp2
      go_ret
      exact ⟨ret_bool HE.out.symm, hB⟩
end Go.Proofs.Ytahedampmjfoeaa
