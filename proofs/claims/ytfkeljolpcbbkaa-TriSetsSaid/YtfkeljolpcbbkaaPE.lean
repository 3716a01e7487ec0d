/- Package fx: sums of products. -/
import Derived.Test.YtfkeljolpcbbkaaPA
import Derived.Test.YtfkeljolpcbbkaaPD
import Derived.Deep.DeepCutAuto

/- FxF -/
namespace Go.Proofs.Ytfkeljolpcbbkaa
open Go.RowKit

set_option maxHeartbeats 4000000 in
theorem dot_fx (p o : Nat) (a ao an ac b bo bn bc : Nat) (xs ys : Nat → Int) (s : Nat) (N : Nat) (h : Bool) (w : World) (f : Fl p o h w) (hs : s ≤ 120) (hN : N ≤ 100) (hNa : N ≤ an) (hNb : N ≤ bn) (hNe : min (min an bn) 100 = N)
    (ha : a < w.heap.size) (hb : b < w.heap.size) (hap : a ≠ p) (hbp : b ≠ p) (hx : Ints w a ao N xs) (hy : Ints w b bo N ys) :
    Calls Try.prog 54 #[.pointer (some ⟨p, o, none⟩), .int .i64 s, .slice (some ⟨a, ao, none⟩) an ac, .slice (some ⟨b, bo, none⟩) bn bc] w fun e w' => e = .returned (.int .i64 (satv (rnd (sumP xs ys N) s))) ∧ FlW p o (h || anyP xs ys N || sath (rnd (sumP xs ys N) s)) w w' := by
  have g1 : ¬ (s : Int) < 0 := by omega
  have g2 : ¬ (120 : Int) < s := by omega
  have HN := Lib.hid hNe
  clear hNe
  go_enter Try.func54, Try.ntmps54
  go_upto_region 5 with (fail)
  generalize hW : World.alloc w _ = W
  have hR0 : W.heap[w.heap.size]? = some (.cells #[.int .i64 (wh (sumP xs ys 0)), .int .u64 (wl (sumP xs ys 0))] 27 (0, 0)) := by subst hW; exact heap_alloc_new w _
  have hz0 : w.heap.size < W.heap.size := by subst hW; simp
  have k0 : FlW p o (h || anyP xs ys 0) w W := by subst hW; exact flag_is (by simp [anyP]) ((FlW.refl f).alloc _)
  clear hW
  go_cut [24, 25] (fun s24 s25 wx => s24 = .int .i64 (N : Int) ∧ s25 = .int .i64 0 ∧ wx = W)
  case first =>
    go_wp2_with fail
    all_goals (go_meet; exact ⟨by have := HN.out; congr 1; omega, rfl, rfl⟩)
  case rest =>
    obtain ⟨rfl, rfl, rfl⟩ := hcut
    go_wp2_with fail
    go_loopw [25] (fun i wr => ∃ k : Nat, k ≤ N ∧ i = .int .i64 k ∧ FlW p o (h || anyP xs ys k) w wr ∧ w.heap.size < wr.heap.size ∧ wr.heap[w.heap.size]? = some (.cells #[.int .i64 (wh (sumP xs ys k)), .int .u64 (wl (sumP xs ys k))] 27 (0, 0))) (fun i _ => N - (intOf i).toNat)
    case atStart => exact ⟨0, Nat.zero_le _, rfl, k0, hz0, hR0⟩
    case round =>
      obtain ⟨k, hk, rfl, hF, hz, hc⟩ := hrel
      by_cases hlt : k < N
      · have hxk := (hF.cell (b := a) (i := ao + k) ha (.inl hap)).trans (hx.at_ k hlt)
        have hyk := (hF.cell (b := b) (i := bo + k) hb (.inl hbp)).trans (hy.at_ k hlt)
        have e0 : wr.cell? ⟨w.heap.size, 0, none⟩ = some (.int .i64 (wh (sumP xs ys k))) := by rw [cell_of_row wr _ _ _ _ _ hc]; rfl
        have e1 : wr.cell? ⟨w.heap.size, 1, none⟩ = some (.int .u64 (wl (sumP xs ys k))) := by rw [cell_of_row wr _ _ _ _ _ hc]; rfl
        have fr := hF.fl f
        have hRp : w.heap.size ≠ p := by have := f.lt; omega
        have ha' : a < wr.heap.size := by omega
        have hb' : b < wr.heap.size := by omega
        have l1 := satv_lo (xs k)
        have l2 := satv_hi (xs k)
        have l3 := satv_lo (ys k)
        have l4 := satv_hi (ys k)
        have hltI : (k : Int) < (N : Int) := by omega
        have hltA : (k : Int) < (an : Int) := by omega
        have hltB : (k : Int) < (bn : Int) := by omega
        have hk0 : (0 : Int) ≤ (k : Int) := by omega
        have hI1 := sumP_in xs ys k (by omega)
        have hI2 := mul_sat_in (xs k) (ys k)
        have hI3 : InW (sumP xs ys k + satv (xs k) * satv (ys k)) := sumP_in xs ys (k + 1) (by omega)
        go_upto_region 8 with (fail)
        go_region_with (first
            | (go_at_call_of 39 (Value.int .i64 (xs k)); refine (sat_any p o (xs k) _ _ (by first | exact fr | exact fr.drew)).mono ?_; rintro e w4 ⟨rfl, kk⟩; have c0 := (kk.cell hz (.inl hRp)).trans e0; have c1 := (kk.cell hz (.inl hRp)).trans e1; have z4 := Nat.lt_of_lt_of_le hz kk.size; have b4 := (kk.block hz hRp).trans hc; have y4 := (kk.cell hb' (.inl hbp)).trans hyk)
            | (go_at_call_of 39 (Value.int .i64 (ys k)); refine (sat_any p o (ys k) _ _ (kk.fl (by first | exact fr | exact fr.drew))).mono ?_; rintro e w5 ⟨rfl, kl⟩; have d0 := (kl.cell z4 (.inl hRp)).trans c0; have d1 := (kl.cell z4 (.inl hRp)).trans c1; have z5 := Nat.lt_of_lt_of_le z4 kl.size; have b5 := (kl.block z4 hRp).trans b4)
            | (go_at_call 19; refine (wmul_any (satv (xs k)) (satv (ys k)) _ (by omega) (by omega) (by omega) (by omega)).mono ?_; rintro e w6 ⟨rfl, hb6⟩; have q0 := (hb6.cell z5).trans d0; have q1 := (hb6.cell z5).trans d1; have z6 := Nat.lt_of_lt_of_le z5 hb6.size; have b6 := (hb6.block _ z5).trans b5)
            | (go_at_call 28; refine (wadd_made _ _ (sumP xs ys k) (satv (xs k) * satv (ys k)) _ rfl hI1 hI2 hI3).mono ?_; rintro e w7 ⟨rfl, hb7⟩; have z7 := Nat.lt_of_lt_of_le z6 hb7.size; have b7 := (hb7.block _ z6).trans b6; have r0 : w7.frozen? ⟨w.heap.size, 0, none⟩ = false := free_of_block b7 0; have r1 : w7.frozen? ⟨w.heap.size, 1, none⟩ = false := free_of_block b7 1; have i0 := (hb7.cell z6).trans q0; have i1 := (hb7.cell z6).trans q1; have m7 := ((kk.trans kl).then hb6).then hb7))
        all_goals
          go_wp2_with fail
          go_roundw
          case rel =>
            refine ⟨k + 1, by omega, by go_num, flag_is (by simp [anyP, Bool.or_assoc]) (((FlW.trans (by first | exact hF.drew | exact hF) m7).other (Nat.le_refl _) _).other (Nat.le_refl _) _), ?_, ?_⟩
            · rw [size_set, size_set]; exact z7
            · exact heap_set2 b7 _ _
          case measure => simp [intOf]; omega
      · have hge : ¬ (k : Int) < (N : Int) := by omega
        obtain rfl : k = N := by omega
        have e0 : wr.cell? ⟨w.heap.size, 0, none⟩ = some (.int .i64 (wh (sumP xs ys k))) := by rw [cell_of_row wr _ _ _ _ _ hc]; rfl
        have e1 : wr.cell? ⟨w.heap.size, 1, none⟩ = some (.int .u64 (wl (sumP xs ys k))) := by rw [cell_of_row wr _ _ _ _ _ hc]; rfl
        have fr := hF.fl f
        go_wp2_with fail
        refine (round_fx p o (sumP xs ys k) s _ _ fr (sumP_in xs ys k hN) (by omega)).mono ?_
        rintro e w7 ⟨rfl, kk⟩
        go_wp2_with fail
        go_ret
        exact ⟨rfl, hF.trans kk⟩
end Go.Proofs.Ytfkeljolpcbbkaa

/- FxG -/
namespace Go.Proofs.Ytfkeljolpcbbkaa
open Go.RowKit

end Go.Proofs.Ytfkeljolpcbbkaa
