/- The sum of two sizes, digit by digit. -/
import Derived.Test.YtahedampmjfoeaaChecked
import Derived.Test.YtahedampmjfoeaaNum
import Derived.Deep.QuietTactic
import Derived.BigQuiet
import Derived.StillTailTactics
import Derived.Deep.LoopGhost
import Derived.Laws.Bits64b
namespace Go.Proofs.Ytahedampmjfoeaa
open Go.RowKit

set_option maxHeartbeats 1000000 in
theorem plus_any (m n : Nat) (w : World) :
    Calls Try.prog 61 #[A8 m, A8 n] w fun e w' => e = .returned (A8 (m + n)) ∧ Below w.heap.size w w' := by
  go_enter Try.func61, Try.ntmps61
  go_wp2
  go_loopw [5, 6] (fun c i wr => ∃ k : Nat, k ≤ 8 ∧ i = .int .i64 k ∧ c = .int .u64 (cy m n k) ∧ Has8 wr 29 w.heap.size (mix (dg (m + n)) (dg m) k) ∧ Has8 wr 29 (w.heap.size + 1) (dg n) ∧ Has8 wr 29 (w.heap.size + 2) (fun _ => 0) ∧ Below w.heap.size w wr) (fun _ i _ => 8 - (intOf i).toNat)
  case atStart =>
    refine ⟨0, by omega, rfl, by rw [cy_zero], ?_, ?_, ?_, ?_⟩
    · exact ((((Has8.made w _ (dg m)).alloc _).alloc _).congr fun j _ => (mix_zero _ _ j).symm)
    · exact (Has8.made_at _ _ (by simp) (dg n)).alloc _
    · exact Has8.made_at _ _ (by simp) (fun _ => 0)
    · exact (((Below.refl _ _).alloc (by omega) _).alloc (by simp) _).alloc (by simp; omega) _
  case round =>
    obtain ⟨k, hk, rfl, rfl, ha, hb, hc, hB⟩ := hrel
    by_cases hlt : k < 8
    · have a1 := ha.cell k hlt
      have b1 := hb.cell k hlt
      have f1 := ha.free k
      have l1 := cy_lo m n k
      have l2 := cy_hi m n k
      have l3 := dg_lo n k
      have l4 := dg_hi n k
      have l5 := dg_lo m k
      have l6 := dg_hi m k
      rw [mix_at] at a1
      have h0 : (0 : Int) ≤ k := by omega
      have h8 : (k : Int) < 8 := by omega
      go_wp2
      go_quiet (fail)
      go_wp2
      go_roundw
      case rel =>
        refine ⟨k + 1, by omega, by go_num, by rw [add_cy], ?_, ?_, ?_, ?_⟩
        · rw [and_mask _ (by omega) (by omega), add_dg]
          exact (ha.drewN.set k hlt _).congr fun j _ => mix_upd _ _ k j
        · exact hb.drewN.other (by simp) _
        · exact hc.drewN.other (by simp) _
        · exact (below_drewN hB _).setCell (by simp) _
      case measure => simp [intOf]; omega
    · obtain rfl : k = 8 := by omega
      obtain ⟨a0, a1, a2, a3, a4, a5, a6, a7⟩ := ha.cells
      obtain ⟨c0, c1, c2, c3, c4, c5, c6, c7⟩ := hc.cells
      have g := hc.free
      rw [mix_all _ _ _ _ (by omega)] at a0 a1 a2 a3 a4 a5 a6 a7
      go_wp2
      exact bodyPost_ret (v := A8 (m + n)) (by simp [results, Try.results61, go_sem, c0, c1, c2, c3, c4, c5, c6, c7]) rfl ⟨rfl, (((((((hB.setCell (by simp; omega) _).setCell (by simp; omega) _).setCell (by simp; omega) _).setCell (by simp; omega) _).setCell (by simp; omega) _).setCell (by simp; omega) _).setCell (by simp; omega) _).setCell (by simp; omega) _⟩
end Go.Proofs.Ytahedampmjfoeaa
