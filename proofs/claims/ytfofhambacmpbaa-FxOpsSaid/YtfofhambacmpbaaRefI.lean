/- The document's own numbers: the quotient, rounded. -/
import Derived.Test.YtfofhambacmpbaaRefH
import Derived.Test.YtfofhambacmpbaaFxM
namespace Go.Proofs.Ytfofhambacmpbaa
open Go.RowKit

theorem dq_two (n D : Nat) : dq n D = if n % D + n % D < D then n / D else n / D + 1 := by
  unfold dq
  by_cases h : D ≤ 2 * (n % D)
  · rw [if_pos h, if_neg (by omega)]
  · rw [if_neg h, if_pos (by omega)]; omega
theorem dg_one (j : Nat) : dg 1 j = if j = 0 then 1 else 0 := by
  unfold dg
  by_cases h : j = 0
  · subst h; rfl
  · rw [if_neg h, Nat.div_eq_of_lt (Nat.one_lt_pow h (by omega))]
    rfl
theorem one8 : A8 1 = Value.agg #[.int .u64 1, .int .u64 0, .int .u64 0, .int .u64 0, .int .u64 0, .int .u64 0, .int .u64 0, .int .u64 0] := by
  simp only [A8, dg_one]
  rfl
theorem plus_one (n : Nat) (w : World) :
    Calls Try.prog 71 #[A8 n, .agg #[.int .u64 1, .int .u64 0, .int .u64 0, .int .u64 0, .int .u64 0, .int .u64 0, .int .u64 0, .int .u64 0]] w fun e w' => e = .returned (A8 (n + 1)) ∧ Below w.heap.size w w' := by
  rw [← one8]; exact plus_any n 1 w
theorem Has8.shown {w : World} {t : TypeId} {B n : Nat} (h : w.heap[B]? = some (.cells #[.int .u64 (dg n 0), .int .u64 (dg n 1), .int .u64 (dg n 2), .int .u64 (dg n 3), .int .u64 (dg n 4), .int .u64 (dg n 5), .int .u64 (dg n 6), .int .u64 (dg n 7)] t (0, 0))) : Has8 w t B (dg n) := h
set_option maxRecDepth 100000 in
set_option maxHeartbeats 4000000 in
theorem div_ref (x y : Int) (w : World) (hx : x.natAbs < B8) (hy0 : y ≠ 0) (hy : 2 * y.natAbs ≤ B8) (hq : x.natAbs / y.natAbs + 1 < B8) :
    Calls Try.prog 38 #[Bg x, Bg y] w fun e w' => e = .returned (Bg (divZ x y)) ∧ Below w.heap.size w w' := by
  have hy1 : 0 < y.natAbs := by omega
  have hyB : y.natAbs < B8 := by omega
  have hrl := Nat.mod_lt x.natAbs hy1
  have HD := Lib.hid (dq_two x.natAbs y.natAbs)
  have HZ := Lib.hid (divZ_sign x y)
  generalize hqe : x.natAbs / y.natAbs = q at *
  generalize hre : x.natAbs % y.natAbs = r at *
  have Hqe := Lib.hid hqe
  have Hre := Lib.hid hre
  clear hqe hre
  go_enter Try.func38, Try.ntmps38
  go_wp2_with fail
  generalize hW : World.alloc (World.alloc (World.alloc w _) _) _ = W
  have fa : Has9 W 38 w.heap.size (decide (x < 0)) (dg x.natAbs) := by subst hW; exact ((Has9.made_at w _ (B := w.heap.size) rfl _ _).alloc _).alloc _
  have fb : Has9 W 38 (w.heap.size + 1) (decide (y < 0)) (dg y.natAbs) := by subst hW; exact (Has9.made_at (World.alloc w _) _ (B := w.heap.size + 1) (by simp) (decide (y < 0)) (dg y.natAbs)).alloc _
  have fc : Has9 W 38 (w.heap.size + 2) false (fun _ => 0) := by subst hW; exact Has9.made_at _ _ (by simp) false (fun _ => 0)
  have hB : Below w.heap.size w W := by subst hW; exact (((Below.refl _ _).alloc (Nat.le_refl _) _).alloc (by simp) _).alloc (by simp; omega) _
  clear hW
  refine (divide_any x.natAbs y.natAbs _ hx hy1 hy).mono ?_
  rintro e w1 ⟨rfl, hb⟩
  rw [Hqe.out, Hre.out]
  have fa := fa.below hb fa.lt
  have fb := fb.below hb fb.lt
  have fc := fc.below hb fc.lt
  have hB := hB.trans (hb.mono hB.size)
  clear hb
  go_upto_region 2 with (fail)
  generalize hV : World.alloc (World.alloc w1 _) _ = V
  have fq : Has8 V 36 w1.heap.size (dg q) := by subst hV; exact (Has8.made w1 _ (dg q)).alloc _
  have fr : Has8 V 36 (w1.heap.size + 1) (dg r) := by subst hV; exact Has8.made_at _ _ (by simp) (dg r)
  have fa : Has9 V 38 w.heap.size (decide (x < 0)) (dg x.natAbs) := by subst hV; exact (fa.alloc _).alloc _
  have fb : Has9 V 38 (w.heap.size + 1) (decide (y < 0)) (dg y.natAbs) := by subst hV; exact (fb.alloc _).alloc _
  have lc : w.heap.size + 2 < w1.heap.size := fc.lt
  have fc : Has9 V 38 (w.heap.size + 2) false (fun _ => 0) := by subst hV; exact (fc.alloc _).alloc _
  have hB : Below w.heap.size w V := by subst hV; exact (hB.alloc hB.size _).alloc (by simp; omega) _
  clear hV
  obtain ⟨r0, r1, r2, r3, r4, r5, r6, r7⟩ := fr.cells
  obtain ⟨b0, b1, b2, b3, b4, b5, b6, b7, b8⟩ := fb.cells
  have lr := fr.lt
  have lb := fb.lt
  have hrB : r + r < B8 := by omega
  by_cases hlt : r + r < y.natAbs
  · have HDq := Lib.hid (show dq x.natAbs y.natAbs = q by rw [HD.out, if_pos hlt])
    have HL := Lib.hid (show decide (r + r < y.natAbs) = true from decide_eq_true hlt)
    clear hlt
    go_region_held3 (fun w' => BExt V w')
      ((show BExt V _; first | (with_reducible exact BExt.start V) | (with_reducible exact hJ)))
      (first
        | (go_at_call 71; refine (plus_any r r _).mono ?_; rintro e w2 ⟨rfl, hb⟩; have hJ := BExt.call (by assumption) hb)
        | (go_at_call 72; refine (less_is (r + r) y.natAbs true _ hrB hyB HL.out).mono ?_; rintro e w3 ⟨rfl, hb⟩; have hJ := BExt.call (by assumption) hb))
    rename_i hI
    have hb := hI.2
    clear hI r0 r1 r2 r3 r4 r5 r6 r7 b0 b1 b2 b3 b4 b5 b6 b7 b8
    have fa := fa.below hb fa.lt
    have fb := fb.below hb fb.lt
    have fc := fc.below hb fc.lt
    have fq := fq.below hb fq.lt
    have hB := hB.trans (hb.mono hB.size)
    clear hb lb lr hrB fr
    go_upto_region 4 with (fail)
    obtain ⟨a0, a1, a2, a3, a4, a5, a6, a7, a8⟩ := fa.cells
    obtain ⟨b0, b1, b2, b3, b4, b5, b6, b7, b8⟩ := fb.cells
    obtain ⟨q0, q1, q2, q3, q4, q5, q6, q7⟩ := fq.cells
    have hs2 := fc.lt
    have hI := Inv.start0 (there_of_row fc 9 (by decide)) hB
    go_wp2_with fail
    refine (made_bg (decide (x < 0) != decide (y < 0)) q (divZ x y) _ _ (by omega) rfl (by rw [HZ.out, HDq.out]; rfl)).mono ?_
    rintro e w4 ⟨rfl, hb⟩
    obtain ⟨j1, j2, j3, j4, j5⟩ := Inv.call hs2 hB.size hI hb
    clear hI
    go_wp2
    exact bodyPost_ret (v := Bg (divZ x y)) (by simp [results, Try.results38, go_sem, j2]) rfl ⟨rfl, Below.set9 (by omega) j4 _ _ _ _ _ _ _ _ _⟩
  · have HDq := Lib.hid (show dq x.natAbs y.natAbs = q + 1 by rw [HD.out, if_neg hlt])
    have HL := Lib.hid (show decide (r + r < y.natAbs) = false from decide_eq_false hlt)
    clear hlt
    go_region_held3 (fun w' => BExt V w')
      ((show BExt V _; first | (with_reducible exact BExt.start V) | (with_reducible exact hJ)))
      (first
        | (go_at_call 71; refine (plus_any r r _).mono ?_; rintro e w2 ⟨rfl, hb⟩; have hJ := BExt.call (by assumption) hb)
        | (go_at_call 72; refine (less_is (r + r) y.natAbs false _ hrB hyB HL.out).mono ?_; rintro e w3 ⟨rfl, hb⟩; have hJ := BExt.call (by assumption) hb))
    rename_i hI
    have hb := hI.2
    clear hI r0 r1 r2 r3 r4 r5 r6 r7 b0 b1 b2 b3 b4 b5 b6 b7 b8
    have fa := fa.below hb fa.lt
    have fb := fb.below hb fb.lt
    have fc := fc.below hb fc.lt
    have fq := fq.below hb fq.lt
    have hB := hB.trans (hb.mono hB.size)
    clear hb
    obtain ⟨q0, q1, q2, q3, q4, q5, q6, q7⟩ := fq.cells
    go_wp2_with fail
    refine (plus_one q _).mono ?_
    rintro e w3' ⟨rfl, hb⟩
    have fa := fa.below hb fa.lt
    have fb := fb.below hb fb.lt
    have fc := fc.below hb fc.lt
    have fq := fq.below hb fq.lt
    have hB := hB.trans (hb.mono hB.size)
    clear hb q0 q1 q2 q3 q4 q5 q6 q7
    have gq := fq.free
    obtain ⟨q0, q1, q2, q3, q4, q5, q6, q7⟩ := fq.cells
    go_upto_region 4 with (fail)
    generalize hZ : World.setCell _ _ _ = Z
    have hn1 : w.heap.size ≠ w1.heap.size := by omega
    have hn2 : w.heap.size + 1 ≠ w1.heap.size := by omega
    have hn3 : w.heap.size + 2 ≠ w1.heap.size := by omega
    have fq' := has8_all fq (dg (q + 1))
    have hB' := Below.set8 (b := w1.heap.size) (by omega) hB (.int .u64 (dg (q + 1) 0)) (.int .u64 (dg (q + 1) 1)) (.int .u64 (dg (q + 1) 2)) (.int .u64 (dg (q + 1) 3)) (.int .u64 (dg (q + 1) 4)) (.int .u64 (dg (q + 1) 5)) (.int .u64 (dg (q + 1) 6)) (.int .u64 (dg (q + 1) 7))
    have far9 : ∀ {B : Nat} {s : Bool} {f : Nat → Int}, B ≠ w1.heap.size → Has9 w3' 38 B s f → Has9 Z 38 B s f := fun hne h => by
      subst hZ
      exact (((((((h.other hne _).other hne _).other hne _).other hne _).other hne _).other hne _).other hne _).other hne _
    have fa := far9 hn1 fa
    have fb := far9 hn2 fb
    have fc := far9 hn3 fc
    rw [hZ] at fq' hB'
    clear hZ far9 q0 q1 q2 q3 q4 q5 q6 q7 gq hB fq
    obtain ⟨a0, a1, a2, a3, a4, a5, a6, a7, a8⟩ := fa.cells
    obtain ⟨b0, b1, b2, b3, b4, b5, b6, b7, b8⟩ := fb.cells
    obtain ⟨q0, q1, q2, q3, q4, q5, q6, q7⟩ := fq'.cells
    have hs2 := fc.lt
    have hI := Inv.start0 (there_of_row fc 9 (by decide)) hB'
    go_wp2_with fail
    refine (made_bg (decide (x < 0) != decide (y < 0)) (q + 1) (divZ x y) _ _ hq rfl (by rw [HZ.out, HDq.out]; rfl)).mono ?_
    rintro e w4 ⟨rfl, hb⟩
    obtain ⟨j1, j2, j3, j4, j5⟩ := Inv.call hs2 hB'.size hI hb
    clear hI
    go_wp2
    exact bodyPost_ret (v := Bg (divZ x y)) (by simp [results, Try.results38, go_sem, j2]) rfl ⟨rfl, Below.set9 (by omega) j4 _ _ _ _ _ _ _ _ _⟩
end Go.Proofs.Ytfofhambacmpbaa
