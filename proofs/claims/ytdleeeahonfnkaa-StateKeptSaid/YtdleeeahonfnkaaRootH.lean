/- Lengths: package root's. -/
import Derived.Test.YtdleeeahonfnkaaQT
import Derived.Deep.DeepCutAuto
import Derived.Test.YtdleeeahonfnkaaPC
namespace Go.Proofs.Ytdleeeahonfnkaa
open Go.RowKit

set_option maxHeartbeats 8000000 in
theorem hypot (p o : Nat) (a ao ac : Nat) (xs : Nat → Int) (N : Nat) (h : Bool) (w : World) (f : Fl p o h w) (hN : N ≤ 62) (hN0 : 1 ≤ N) (hac : N ≤ ac)
    (ha : a < w.heap.size) (hap : a ≠ p) (hx : Ints w a ao N xs) :
    Calls Try.prog 125 #[.pointer (some ⟨p, o, none⟩), .slice (some ⟨a, ao, none⟩) N ac] w fun e w' => e = .returned (.int .i64 (satv (rootN (sumQ xs N).toNat : Nat))) ∧ FlW p o (h || anyS xs N || sath (rootN (sumQ xs N).toNat : Nat)) w w' := by
  have g1 : (N : Int) < 64 := by omega
  have g2 : ¬ ac = 0 := by omega
  have g3 : (N : Int) ≤ (ac : Int) := by omega
  have g4 : (0 : Int) ≤ (N : Int) := by omega
  have g5 : ¬ (64 : Int) < (N : Int) := by omega
  go_enter Try.func125, Try.ntmps125
  go_upto_region 2 with (fail)
  generalize hW : World.alloc w _ = W
  have hR0 : W.heap[w.heap.size]? = some (.cells #[.int .i64 (wh (sumQ xs 0)), .int .u64 (wl (sumQ xs 0))] 24 (0, 0)) := by subst hW; exact heap_alloc_new w _
  have hz0 : w.heap.size < W.heap.size := by subst hW; simp
  have k0 : FlW p o (h || anyS xs 0) w W := by subst hW; exact flag_is (by simp [anyS]) ((FlW.refl f).alloc _)
  clear hW
  go_cut [14, 15, 16] (fun s14 s15 s16 wx => s14 = .slice (some ⟨a, ao, none⟩) N ac ∧ s15 = .int .i64 (N : Int) ∧ s16 = .int .i64 0 ∧ wx = W)
  case first =>
    go_wp2_with fail
    all_goals (go_meet; first | exact ⟨rfl, rfl, rfl, rfl⟩ | exact ⟨by simp [], rfl, rfl, rfl⟩ | (exfalso; omega) | (refine ⟨?_, ?_, rfl, rfl⟩ <;> (congr 1; omega)))
  case rest =>
    obtain ⟨rfl, rfl, rfl, rfl⟩ := hcut
    go_wp2_with fail
    go_loopw [16] (fun i wr => ∃ (k : Nat), k ≤ N ∧ i = .int .i64 k ∧ FlW p o (h || anyS xs k) w wr ∧ w.heap.size < wr.heap.size ∧ wr.heap[w.heap.size]? = some (.cells #[.int .i64 (wh (sumQ xs k)), .int .u64 (wl (sumQ xs k))] 24 (0, 0))) (fun i _ => N - (intOf i).toNat)
    case atStart => exact ⟨0, Nat.zero_le _, rfl, k0, hz0, hR0⟩
    case round =>
      obtain ⟨k, hk, rfl, hF, hz, hc⟩ := hrel
      have hS := sumQ_bd xs k
      have e0 : wr.cell? ⟨w.heap.size, 0, none⟩ = some (.int .i64 (wh (sumQ xs k))) := by rw [cell_of_row wr _ _ _ _ _ hc]; rfl
      have e1 : wr.cell? ⟨w.heap.size, 1, none⟩ = some (.int .u64 (wl (sumQ xs k))) := by rw [cell_of_row wr _ _ _ _ _ hc]; rfl
      have fr := hF.fl f
      by_cases hlt : k < N
      · have hxk := (hF.cell (b := a) (i := ao + k) ha (.inl hap)).trans (hx.at_ k hlt)
        have hRp : w.heap.size ≠ p := by have := f.lt; omega
        have ha' : a < wr.heap.size := by omega
        have hltI : (k : Int) < (N : Int) := by omega
        have hk0 : (0 : Int) ≤ (k : Int) := by omega
        have l1 := satv_lo (xs k)
        have l2 := satv_hi (xs k)
        have hI1 := sumQ_in xs k (by omega)
        have hI2 := mul_sat_in (xs k) (xs k)
        have hI3 : InW (sumQ xs k + satv (xs k) * satv (xs k)) := sumQ_in xs (k + 1) (by omega)
        clear hS
        go_wp2_with fail
        refine (sat_any p o (xs k) _ _ fr).mono ?_
        rintro e w4 ⟨rfl, kk⟩
        have c0 := (kk.cell hz (.inl hRp)).trans e0
        have c1 := (kk.cell hz (.inl hRp)).trans e1
        have z4 := Nat.lt_of_lt_of_le hz kk.size
        have b4 := (kk.block hz hRp).trans hc
        have m4 := FlW.trans hF kk
        clear e0 e1 hF hc hz kk fr
        go_upto_region 6 with (fail)
        go_region_with (first
            | (go_at_call 84; refine (wmul_any (satv (xs k)) (satv (xs k)) _ (by omega) (by omega) (by omega) (by omega)).mono ?_; rintro e w6 ⟨rfl, hb6⟩; have q0 := (hb6.cell z4).trans c0; have q1 := (hb6.cell z4).trans c1; have z6 := Nat.lt_of_lt_of_le z4 hb6.size; have b6 := (hb6.block _ z4).trans b4)
            | (go_at_call 81; refine (wadd_made _ _ (sumQ xs k) (satv (xs k) * satv (xs k)) _ rfl hI1 hI2 hI3).mono ?_; rintro e w7 ⟨rfl, hb7⟩; have z7 := Nat.lt_of_lt_of_le z6 hb7.size; have b7 := (hb7.block _ z6).trans b6; have r0 : w7.frozen? ⟨w.heap.size, 0, none⟩ = false := free_of_block b7 0; have r1 : w7.frozen? ⟨w.heap.size, 1, none⟩ = false := free_of_block b7 1; have i0 := (hb7.cell z6).trans q0; have i1 := (hb7.cell z6).trans q1; have m7 := (FlW.then (by first | exact m4.drew | exact m4) hb6).then hb7))
        all_goals
          go_wp2_with fail
          go_roundw
          case rel =>
            refine ⟨k + 1, by omega, by go_num, flag_is (by simp [anyS, Bool.or_assoc]) ((m7.other (Nat.le_refl _) _).other (Nat.le_refl _) _), ?_, ?_⟩
            · rw [size_set, size_set]; exact z7
            · exact heap_set2 b7 _ _
          case measure => simp [intOf]; omega
      · obtain rfl : k = N := by omega
        have hge : ¬ (k : Int) < (k : Int) := by omega
        have HR := Lib.hid (fun w => wroot_any (sumQ xs k) w hS.1 (by omega))
        go_wp2_with fail
        refine (HR.out _).mono ?_
        rintro e w7 ⟨rfl, hb7⟩
        have fr := fr.below hb7
        have hF := hF.then hb7
        go_wp2_with fail
        refine (sat_any p o _ _ _ fr).mono ?_
        rintro e w8 ⟨rfl, kk⟩
        go_wp2_with fail
        go_ret
        exact ⟨rfl, hF.trans kk⟩
end Go.Proofs.Ytdleeeahonfnkaa
