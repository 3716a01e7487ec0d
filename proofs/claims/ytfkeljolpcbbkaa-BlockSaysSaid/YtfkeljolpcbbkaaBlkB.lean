/- Package block: one state begun anew; package thornton: variances added. -/
import Derived.Test.YtfkeljolpcbbkaaBlkA
namespace Go.Proofs.Ytfkeljolpcbbkaa
open Go.RowKit

set_option maxHeartbeats 2000000 in
theorem begin_any (p o S : Nat) (s : Nat → Int) (k : Nat) (v : Int) (h : Bool) (w : World) (fl : Fl p o h w) (hS : Blk w S (rowA 600 s) 182) (hp : S ≠ p) (hk : k < 24) :
    Calls Try.prog 175 #[.pointer (some ⟨S, 0, none⟩), .pointer (some ⟨p, o, none⟩), .int .i64 (k : Int), .int .i64 v] w fun e w' => e = .returned (.tuple #[]) ∧ FlW p o (h || clamph v 1 72057594037927936) (w.setRow S (rowA 600 (bgS s (k : Int) v))) w' := by
  have hkI : (k : Int) < 24 := by omega
  have hk0 : (0 : Int) ≤ (k : Int) := by omega
  have HB := Lib.hid (show bgS s (k : Int) v = upd (upd s (k * 24 + k) 0) (576 + k) (clampv v 1 72057594037927936) by
    unfold bgS
    rw [(inN_iff _).2 (by omega), cond_true, Int.toNat_natCast, show 25 * k = k * 24 + k by omega])
  have hc := hS.cell (k * 24 + k)
  rw [rowA_get _ (by omega)] at hc
  have hf := hS.free (k * 24 + k)
  have hF := FlW.sameRow fl hS
  have hF2 := FlW.cellRow hS hp hF (i := k * 24 + k) (by omega) 0
  have hS2 := FlW.rowBlk hS hp hF2
  have fl2 : Fl p o h (w.setCell ⟨S, k * 24 + k, none⟩ (.int .i64 0)) := hF2.fl (fl.row hp _)
  have H := Lib.hid (And.intro hF2 (And.intro hS2 fl2))
  clear hF hF2 hS2 fl2
  go_enter Try.func175, Try.ntmps175
  go_upto_region 1 with (fail)
  obtain ⟨hF2, hS2, fl2⟩ := H.out
  clear H hc hf
  generalize World.setCell _ _ _ = w2 at *
  have H := Lib.hid (And.intro hF2 hS2)
  clear hF2 hS2
  go_region_with (first
    | (go_at_call 37; refine (clamp_any p o v 1 72057594037927936 _ _ fl2.drew).mono ?_; rintro e' w4 ⟨rfl, kk⟩; have hS4 := H.out.2.drew.flag (by omega) kk; have hc := hS4.cell (576 + k); rw [rowA_get _ (by omega)] at hc; have hf := hS4.free (576 + k)))
  all_goals
    obtain ⟨hF2, hS2⟩ := H.out
    have hF5 := FlW.cellRow hS hp (hF2.drew.trans kk) (i := 576 + k) (by omega) (clampv v 1 72057594037927936)
    rw [← HB.out] at hF5
    exact bodyPost_end (results_none rfl _ _ _) rfl ⟨rfl, hF5⟩
end Go.Proofs.Ytfkeljolpcbbkaa
