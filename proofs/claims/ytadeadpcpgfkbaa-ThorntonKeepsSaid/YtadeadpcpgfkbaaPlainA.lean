/- Factors made small (the laws of package block): their numbers. -/
import Derived.Test.YtadeadpcpgfkbaaBlkA
import Derived.Test.YtadeadpcpgfkbaaKP
import Derived.Test.YtadeadpcpgfkbaaERR
namespace Go.Proofs.Ytadeadpcpgfkbaa
open Go.RowKit

def plainF (f : Nat → Int) : Nat → Int := fun k => if k < 276 then (f k).tmod 268435456 else wrap64 (17179869184 + bits .and .i64 (f k) 8796093022207)
theorem and_bd (x : Int) : 0 ≤ bits .and .i64 x 8796093022207 ∧ bits .and .i64 x 8796093022207 ≤ 8796093022207 := by
  have h1 : (BitVec.ofInt 64 x &&& BitVec.ofInt 64 8796093022207).toNat ≤ 8796093022207 := by
    rw [BitVec.toNat_and]
    refine Nat.le_trans Nat.and_le_right ?_
    decide
  have h2 : bits .and .i64 x 8796093022207 = IntKind.i64.wrap (((BitVec.ofInt 64 x &&& BitVec.ofInt 64 8796093022207).toNat : Nat) : Int) := rfl
  rw [h2]
  generalize (BitVec.ofInt 64 x &&& BitVec.ofInt 64 8796093022207).toNat = n at *
  rw [i64_id _ (by omega) (by omega)]
  omega
theorem plain_ok (f : Nat → Int) : EA.Plain (plainF f) where
  u := fun k hk => by
    unfold plainF
    rw [if_pos hk]
    have h1 := Int.tmod_lt_of_pos (f k) (show (0 : Int) < 268435456 by omega)
    have h2 := Int.lt_tmod_of_pos (f k) (show (0 : Int) < 268435456 by omega)
    omega
  d := fun k _ => by
    unfold plainF
    rw [if_neg (by omega)]
    have := and_bd (f (276 + k))
    rw [wrap64_sm (by omega) (by omega)]
    omega
def plaU (f : Nat → Int) (t : Nat) : Nat → Int := fun k => if k < t then plainF f k else f k
theorem plaU_zero (f : Nat → Int) : plaU f 0 = f := by funext k; unfold plaU; rw [if_neg (by omega)]
theorem plaU_self (f : Nat → Int) (t : Nat) : plaU f t t = f t := by unfold plaU; rw [if_neg (by omega)]
theorem plaU_next (f : Nat → Int) (t : Nat) : upd (plaU f t) t (plainF f t) = plaU f (t + 1) := by
  funext k; unfold upd plaU
  by_cases h : k = t
  · subst h; rw [if_pos rfl, if_pos (by omega)]
  · rw [if_neg h]
    by_cases h2 : k < t
    · rw [if_pos h2, if_pos (by omega)]
    · rw [if_neg h2, if_neg (by omega)]
theorem plainF_u {f : Nat → Int} {k : Nat} (h : k < 276) : plainF f k = (f k).tmod 268435456 := if_pos h
theorem plainF_d (f : Nat → Int) (k : Nat) : plainF f (276 + k) = wrap64 (17179869184 + bits .and .i64 (f (276 + k)) 8796093022207) := if_neg (by omega)
theorem plaU_all {f : Nat → Int} {k : Nat} (h : k < 300) : plaU f 300 k = plainF f k := if_pos h
set_option maxRecDepth 10000 in
set_option maxHeartbeats 4000000 in
theorem plain_any (f : Nat → Int) (w : World) :
    Calls Try.prog 27 #[.agg (rowA 300 f)] w fun e w' => e = .returned (.agg (rowA 300 (plainF f))) ∧ Below w.heap.size w w' := by
  go_enter Try.func27, Try.ntmps27
  go_upto_region 1 with (fail)
  rw [zeroCov]
  generalize hW : World.alloc (World.alloc w _) _ = X
  have hb : Below w.heap.size w X := by subst hW; exact ((Below.refl _ _).alloc (Nat.le_refl _) _).alloc (by simp) _
  have hP : Blk X w.heap.size (rowA 300 (plaU f 0)) 29 := by subst hW; rw [plaU_zero]; exact (Blk.made _ _ _ rfl).alloc _
  have hR : Blk X (w.heap.size + 1) (rowA 300 fun _ => 0) 29 := by subst hW; exact Blk.made _ _ _ (by simp)
  clear hW
  go_wp2_with fail
  go_loopw [3] (fun i' wr => ∃ k : Nat, k ≤ 276 ∧ i' = .int .i64 k ∧ Below w.heap.size w wr ∧ Blk wr w.heap.size (rowA 300 (plaU f k)) 29 ∧ Blk wr (w.heap.size + 1) (rowA 300 fun _ => 0) 29) (fun i' _ => 276 - (intOf i').toNat)
  case atStart => exact ⟨0, by omega, rfl, hb, hP, hR⟩
  case round =>
    clear hb hP hR
    obtain ⟨k, hk, rfl, hb, hP, hR⟩ := hrel
    by_cases hlt : k < 276
    · have hltI : (k : Int) < 276 := by omega
      have hk0 : (0 : Int) ≤ (k : Int) := by omega
      have hc := hP.cell k
      rw [rowA_get _ (by omega), plaU_self] at hc
      have hf := hP.free k
      have hP2 := hP.setI (k := k) (by omega) (plainF f k)
      rw [plaU_next, plainF_u hlt] at hP2
      have hb2 := hb.setCell (p := ⟨w.heap.size, k, none⟩) (Nat.le_refl _) (.int .i64 ((f k).tmod 268435456))
      have hR2 := hR.other (b := w.heap.size) (i := k) (by omega) (.int .i64 ((f k).tmod 268435456))
      have H := Lib.hid (And.intro hb2 (And.intro hP2 hR2))
      clear hb2 hR2 hP2 hb hR hP
      go_wp2_with fail
      go_roundw
      case rel =>
        obtain ⟨hb2, hP2, hR2⟩ := H.out
        exact ⟨k + 1, by omega, by go_num, hb2, hP2, hR2⟩
      case measure => simp [intOf]; omega
    · obtain rfl : k = 276 := by omega
      clear hlt hk
      have hcc : ¬ ((276 : Nat) : Int) < 276 := by omega
      go_wp2_with fail
      clear hcc
      go_loopw [4] (fun i' wr => ∃ k : Nat, k ≤ 24 ∧ i' = .int .i64 k ∧ Below w.heap.size w wr ∧ Blk wr w.heap.size (rowA 300 (plaU f (276 + k))) 29 ∧ Blk wr (w.heap.size + 1) (rowA 300 fun _ => 0) 29) (fun i' _ => 24 - (intOf i').toNat)
      case atStart => exact ⟨0, by omega, rfl, hb, hP, hR⟩
      case round =>
        clear hb hP hR
        obtain ⟨k, hk, rfl, hb, hP, hR⟩ := hrel
        by_cases hlt : k < 24
        · have hltI : (k : Int) < 24 := by omega
          have hk0 : (0 : Int) ≤ (k : Int) := by omega
          have hc := hP.cell (276 + k)
          rw [rowA_get _ (by omega), plaU_self] at hc
          have hf := hP.free (276 + k)
          have hP2 := hP.setI (k := 276 + k) (by omega) (plainF f (276 + k))
          rw [plaU_next, plainF_d] at hP2
          have hb2 := hb.setCell (p := ⟨w.heap.size, 276 + k, none⟩) (Nat.le_refl _) (.int .i64 (wrap64 (17179869184 + bits .and .i64 (f (276 + k)) 8796093022207)))
          have hR2 := hR.other (b := w.heap.size) (i := 276 + k) (by omega) (.int .i64 (wrap64 (17179869184 + bits .and .i64 (f (276 + k)) 8796093022207)))
          have H := Lib.hid (And.intro hb2 (And.intro hP2 hR2))
          clear hb2 hR2 hP2 hb hR hP
          go_wp2_with fail
          go_roundw
          case rel =>
            obtain ⟨hb2, hP2, hR2⟩ := H.out
            exact ⟨k + 1, by omega, by go_num, hb2, hP2, hR2⟩
          case measure => simp [intOf]; omega
        · obtain rfl : k = 24 := by omega
          clear hlt hk
          have hcc : ¬ ((24 : Nat) : Int) < 24 := by omega
          have hP := hP.congr (g := plainF f) (fun j hj => plaU_all hj)
          go_wp2_with (first
            | (refine row_load 29 _ rfl rfl w.heap.size 300 _ _ rfl hP _ Try.underlying29 rfl covSize ?_)
            | (refine row_store 29 _ _ rfl rfl (w.heap.size + 1) 300 _ _ _ rfl rfl hR covSize ?_))
          exact bodyPost_ret (v := .agg (rowA 300 (plainF f))) (results_row rfl _ _ (w.heap.size + 1) 300 _ _ _ rfl hR.setRow Try.underlying29 rfl covSize) rfl ⟨rfl, below_setRow hb (by omega) _⟩
end Go.Proofs.Ytadeadpcpgfkbaa
