/- The document's own: the matrix that changes nothing; states given new variances. -/
import Derived.Test.YtfkeljolpcbbkaaBlkD
import Derived.Test.YtfkeljolpcbbkaaLwA
import Derived.Test.YtfkeljolpcbbkaaThoR
import Derived.Test.YtfkeljolpcbbkaaQQB
namespace Go.Proofs.Ytfkeljolpcbbkaa
open Go.RowKit

theorem zeroG : Try.zeroCells109 = rowA 576 (fun _ => 0) := by kernel_rfl
theorem gSize : (Try.prog.info? 109).map (·.size) = some 576 := by kernel_rfl
set_option maxRecDepth 10000 in
set_option maxHeartbeats 2000000 in
theorem runit_any (w : World) :
    Calls Try.prog 176 #[] w fun e w' => e = .returned (.agg (rowA 576 oneG)) ∧ Below w.heap.size w w' := by
  go_enter Try.func176, Try.ntmps176
  go_upto_region 2 with (fail)
  rw [zeroG]
  generalize hW : World.alloc (World.alloc w _) _ = X
  have hb : Below w.heap.size w X := by subst hW; exact ((Below.refl _ _).alloc (Nat.le_refl _) _).alloc (by simp) _
  have hR : Blk X w.heap.size (rowA 576 fun _ => 0) 109 := by subst hW; exact (Blk.made _ _ _ rfl).alloc _
  have hF : Blk X (w.heap.size + 1) (rowA 576 (oneT 0)) 109 := by subst hW; rw [oneT_zero]; exact Blk.made _ _ _ (by simp)
  clear hW
  go_wp2_with fail
  go_loopw [2] (fun i' wr => ∃ k : Nat, k ≤ 24 ∧ i' = .int .i64 k ∧ Below w.heap.size w wr ∧ Blk wr w.heap.size (rowA 576 fun _ => 0) 109 ∧ Blk wr (w.heap.size + 1) (rowA 576 (oneT k)) 109) (fun i' _ => 24 - (intOf i').toNat)
  case atStart => exact ⟨0, by omega, rfl, hb, hR, hF⟩
  case round =>
    clear hb hR hF
    obtain ⟨k, hk, rfl, hb, hR, hF⟩ := hrel
    by_cases hlt : k < 24
    · have hltI : (k : Int) < 24 := by omega
      have hk0 : (0 : Int) ≤ (k : Int) := by omega
      have hc := hF.cell (k * 24 + k)
      rw [rowA_get _ (by omega)] at hc
      have hf := hF.free (k * 24 + k)
      have hF2 := hF.setI (k := k * 24 + k) (by omega) 1073741824
      rw [oneT_next hlt] at hF2
      have hb2 := hb.setCell (p := ⟨w.heap.size + 1, k * 24 + k, none⟩) (by simp) (.int .i64 1073741824)
      have hR2 := hR.other (b := w.heap.size + 1) (i := k * 24 + k) (by omega) (.int .i64 1073741824)
      have H := Lib.hid (And.intro hb2 (And.intro hR2 hF2))
      clear hb2 hR2 hF2 hb hR hF
      go_wp2_with fail
      go_roundw
      case rel =>
        obtain ⟨hb2, hR2, hF2⟩ := H.out
        exact ⟨k + 1, by omega, by go_num, hb2, hR2, hF2⟩
      case measure => simp [intOf]; omega
    · obtain rfl : k = 24 := by omega
      clear hlt hk
      have hF := hF.congr (fun j hj => oneT_all hj)
      go_wp2_with (first
        | (refine row_load 109 _ rfl rfl (w.heap.size + 1) 576 _ _ rfl hF _ Try.underlying109 rfl gSize ?_)
        | (refine row_store 109 _ _ rfl rfl w.heap.size 576 _ _ _ rfl rfl hR gSize ?_))
      exact bodyPost_ret (v := .agg (rowA 576 oneG)) (results_row rfl _ _ w.heap.size 576 _ _ _ rfl hR.setRow Try.underlying109 rfl gSize) rfl ⟨rfl, below_setRow hb (Nat.le_refl _) _⟩
abbrev LR (w0 : World) (f : Nat → Int) : List (Nat × Nat × (Nat → Int) × TypeId) := [(w0.heap.size, 300, f, 93), (w0.heap.size + 1, 300, fun _ => 0, 93)]
structure Rr (w0 : World) (p o : Nat) (h : Bool) (f : Nat → Int) (F Q : Nat) (g q : Nat → Int) (w : World) : Prop where
  s : Fr w0 p o h (LR w0 f) w
  fF : Fresh2 w0 (LR w0 f) F 576 g 109 w
  fQ : Fresh2 w0 (LR w0 f) Q 24 q 91 w
  ne : F ≠ Q
section
variable {w0 : World} {p o : Nat} {h h2 : Bool} {f : Nat → Int} {F Q : Nat} {g q : Nat → Int} {w w' : World}
theorem Rr.flag (r : Rr w0 p o h f F Q g q w) (hp : p < w0.heap.size) (k : FlW p o h2 w w') : Rr w0 p o h2 f F Q g q w' := ⟨r.s.flag hp k, r.fF.flag hp k, r.fQ.flag hp k, r.ne⟩
theorem Rr.drew (r : Rr w0 p o h f F Q g q w) : Rr w0 p o h f F Q g q w.drew := ⟨r.s.drew, r.fF.drew, r.fQ.drew, r.ne⟩
theorem Rr.setF (r : Rr w0 p o h f F Q g q w) {k : Nat} (hk : k < 576) (v : Int) : Rr w0 p o h f F Q (upd g k v) q (w.setCell ⟨F, k, none⟩ (.int .i64 v)) := ⟨r.s.other r.fF.lo r.fF.gt _, r.fF.put hk v, r.fQ.other (Ne.symm r.ne) _, r.ne⟩
theorem Rr.setQ (r : Rr w0 p o h f F Q g q w) {k : Nat} (hk : k < 24) (v : Int) : Rr w0 p o h f F Q g (upd q k v) (w.setCell ⟨Q, k, none⟩ (.int .i64 v)) := ⟨r.s.other r.fQ.lo r.fQ.gt _, r.fF.other r.ne _, r.fQ.put hk v, r.ne⟩
theorem Rr.as (r : Rr w0 p o h f F Q g q w) {g2 q2 : Nat → Int} (e1 : g = g2) (e2 : q = q2) (e3 : h = h2) : Rr w0 p o h2 f F Q g2 q2 w := by subst e1 e2 e3; exact r
theorem Rr.congr (r : Rr w0 p o h f F Q g q w) {g2 q2 : Nat → Int} (e1 : ∀ k, k < 576 → g k = g2 k) (e2 : ∀ k, k < 24 → q k = q2 k) (e3 : h = h2) : Rr w0 p o h2 f F Q g2 q2 w := by subst e3; exact ⟨r.s, ⟨r.fF.lo, r.fF.gt, r.fF.blk.congr e1⟩, ⟨r.fQ.lo, r.fQ.gt, r.fQ.blk.congr e2⟩, r.ne⟩
theorem Rr.P (r : Rr w0 p o h f F Q g q w) : Blk w w0.heap.size (rowA 300 f) 93 := r.s.get (.head _)
theorem Rr.R (r : Rr w0 p o h f F Q g q w) : Blk w (w0.heap.size + 1) (rowA 300 fun _ => 0) 93 := r.s.get (.tail _ (.head _))
end
end Go.Proofs.Ytfkeljolpcbbkaa
