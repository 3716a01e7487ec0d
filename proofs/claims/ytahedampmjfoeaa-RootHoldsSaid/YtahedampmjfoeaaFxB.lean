/- Package fx: rounded and clamped; divided and clamped; a product; a quotient. -/
import Derived.Test.YtahedampmjfoeaaFxA
namespace Go.Proofs.Ytahedampmjfoeaa
open Go.RowKit

theorem flag_is {p o : Nat} {g h : Bool} {w w' : World} (hh : h = g) (k : FlW p o h w w') : FlW p o g w w' := by subst hh; exact k
theorem box_at {w : World} {h l : Int} {t : TypeId} {B : Nat} (hB : w.heap.size = B) : (w.alloc (.cells #[.int .i64 h, .int .u64 l] t)).cell? ⟨B, 0, none⟩ = some (.int .i64 h) ∧ (w.alloc (.cells #[.int .i64 h, .int .u64 l] t)).cell? ⟨B, 1, none⟩ = some (.int .u64 l) := by
  subst hB
  have e := heap_alloc_new w (.cells #[.int .i64 h, .int .u64 l] t)
  exact ⟨by rw [cell_of_row _ _ _ _ _ _ e]; rfl, by rw [cell_of_row _ _ _ _ _ _ e]; rfl⟩
set_option maxHeartbeats 1000000 in
theorem round_fx (p o : Nat) (v : Int) (s : Nat) (h : Bool) (w : World) (f : Fl p o h w) (hv : InW v) (hs : s ≤ 126) :
    Calls Try.prog 75 #[.pointer (some ⟨p, o, none⟩), Wv v, .int .i64 s] w fun e w' => e = .returned (.int .i64 (satv (rnd v s))) ∧ FlW p o (h || sath (rnd v s)) w w' := by
  have hsv := show sok (rnd v s) = true → sval (rnd v s) = rnd v s from fun x => by unfold sval; rw [if_pos x]
  have HS := Lib.hid hsv
  clear hsv
  cases hk : sok (rnd v s)
  · have HF := Lib.hid (round_far hk)
    have HK := Lib.hid hk
    clear hk
    go_enter Try.func75, Try.ntmps75
    go_wp2_with fail
    generalize hW : World.alloc w _ = W
    obtain ⟨a0, a1⟩ : W.cell? ⟨w.heap.size, 0, none⟩ = some (.int .i64 (wh v)) ∧ W.cell? ⟨w.heap.size, 1, none⟩ = some (.int .u64 (wl v)) := by subst hW; exact box_at rfl
    have hz : w.heap.size < W.heap.size := by subst hW; simp
    have hB : Below w.heap.size w W := by subst hW; exact (Below.refl _ _).alloc (Nat.le_refl _) _
    clear hW
    refine (round_any v s _ hv hs).mono ?_
    rintro e w1 ⟨rfl, hb⟩
    rw [show withSign (decide (v < 0)) (rq v.natAbs s) = rnd v s from rfl, HK.out]
    have a0 := (hb.cell (p := ⟨w.heap.size, 0, none⟩) hz).trans a0
    have a1 := (hb.cell (p := ⟨w.heap.size, 1, none⟩) hz).trans a1
    have hB := hB.trans (hb.mono (Nat.le_of_lt hz))
    have f1 := f.below hB
    clear hb hz
    go_wp2_with fail
    refine (bound_any p o v h _ f1 hv).mono ?_
    rintro e w2 ⟨rfl, k⟩
    go_wp2_with fail
    go_ret
    exact ⟨ret_int HF.out.1.symm, flag_or HF.out.2 (((FlW.refl f).then hB).trans k)⟩
  · have hq := HS.out hk
    have HQ := Lib.hid hq
    have HK := Lib.hid hk
    clear hk hq
    go_enter Try.func75, Try.ntmps75
    go_wp2_with fail
    generalize hW : World.alloc w _ = W
    have hB : Below w.heap.size w W := by subst hW; exact (Below.refl _ _).alloc (Nat.le_refl _) _
    have hz : w.heap.size < W.heap.size := by subst hW; simp
    clear hW
    refine (round_any v s _ hv hs).mono ?_
    rintro e w1 ⟨rfl, hb⟩
    rw [show withSign (decide (v < 0)) (rq v.natAbs s) = rnd v s from rfl, HK.out]
    have hB := hB.trans (hb.mono (Nat.le_of_lt hz))
    have f1 := f.below hB
    clear hb hz
    go_wp2_with fail
    refine (sat_at p o _ (rnd v s) h _ f1 HQ.out).mono ?_
    rintro e w2 ⟨rfl, k⟩
    go_wp2_with fail
    go_ret
    exact ⟨rfl, ((FlW.refl f).then hB).trans k⟩
end Go.Proofs.Ytahedampmjfoeaa
