/- The runner: what a step gives is good. -/
import Derived.Test.YtadeadpcpgfkbaaSxTh
namespace Go.Proofs.Ytadeadpcpgfkbaa
open Go.RowKit
theorem stO_D (W e : Nat → Int) : ∀ (n k : Nat), n ≤ 24 → 24 - n ≤ k → k < 24 → 1 ≤ stO W e n (276 + k) ∧ stO W e n (276 + k) ≤ 72057594037927936
  | 0, k, _, h, h2 => by omega
  | n + 1, k, hn, h, h2 => by
    rw [stO, outI_at _ _ _ (by omega) (Nat.le_refl _)]
    have hb := plcN_le (23 - n + 1) (by omega)
    have hs := plcN_next (23 - n) (by omega)
    by_cases e1 : 276 + k = 276 + (23 - n)
    · rw [if_pos e1]; exact dF_bd _ _ _
    · rw [if_neg e1, if_neg (by omega)]
      exact stO_D W e n k (by omega) (by omega) h2
theorem hitD_none {f : Nat → Int} : ∀ {n : Nat}, (∀ k, k < n → 1 ≤ f (276 + k) ∧ f (276 + k) ≤ 72057594037927936) → hitD f n = false
  | 0, _ => rfl
  | n + 1, h => by
    have h1 := h n (by omega)
    rw [hitD, hitD_none (fun k hk => h k (by omega))]
    unfold clamph
    rw [decide_eq_false (by omega), decide_eq_false (by omega), decide_eq_false (by omega)]; rfl
theorem hitU_none {f : Nat → Int} : ∀ {n : Nat}, (∀ k, k < n → -1152921504606846976 ≤ f k ∧ f k ≤ 1152921504606846976) → hitU f n = false
  | 0, _ => rfl
  | n + 1, h => by
    have h1 := h n (by omega)
    rw [hitU, hitU_none (fun k hk => h k (by omega)), (satv_in h1.1 h1.2).2]; rfl
theorem goodB_of {f : Nat → Int} (h1 : ∀ k, k < 276 → -1152921504606846976 ≤ f k ∧ f k ≤ 1152921504606846976) (h2 : ∀ k, k < 24 → 1 ≤ f (276 + k) ∧ f (276 + k) ≤ 72057594037927936) : goodB f = true := by
  unfold goodB condH
  rw [hitD_none h2, hitU_none h1]; rfl
end Go.Proofs.Ytadeadpcpgfkbaa
namespace Go.Proofs.Ytadeadpcpgfkbaa.SX
open Go Go.RowKit
noncomputable section
variable {g : Sg}
def isRow (st : St) (R : Nat) : Nat → List A → Bool
  | _, [] => true
  | k, .x n :: r => (match getD st n with
    | some (.u 61, [.k z, .x m]) => bif decide (z = (k : Int)) && Nat.beq m R then isRow st R (k + 1) r else false
    | _ => false)
  | _, .k _ :: _ => false
end
end Go.Proofs.Ytadeadpcpgfkbaa.SX
