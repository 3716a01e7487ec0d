/- The document's own scalars again: sums of products. -/
import Derived.Test.YtdleeeahonfnkaaQT
import Derived.Deep.DeepCutAuto
namespace Go.Proofs.Ytdleeeahonfnkaa
open Go.RowKit

set_option maxHeartbeats 8000000 in
theorem qdot (p o : Nat) (a ao ac b bo bc : Nat) (xs ys : Nat → Int) (s : Nat) (N : Nat) (h : Bool) (w : World) (f : Fl p o h w) (hs : s ≤ 120) (hN : N ≤ 100)
    (ha : a < w.heap.size) (hb : b < w.heap.size) (hap : a ≠ p) (hbp : b ≠ p) (hx : Ints w a ao N xs) (hy : Ints w b bo N ys) :
    Calls Try.prog 58 #[.pointer (some ⟨p, o, none⟩), .int .i64 s, .slice (some ⟨a, ao, none⟩) N ac, .slice (some ⟨b, bo, none⟩) N bc] w fun e w' => e = .returned (.int .i64 (satv (rnd (sumP xs ys N) s))) ∧ FlW p o (h || anyP xs ys N || sath (rnd (sumP xs ys N) s)) w w' := by
  go_enter Try.func58, Try.ntmps58
  go_wp2_with fail
  generalize hW : World.alloc w _ = W
  have hR0 : W.heap[w.heap.size]? = some (.cells #[.int .u64 (wh 0), .int .u64 (wl 0), .bool false] 127 (0, 0)) := by subst hW; exact heap_alloc_new w _
  have hz0 : w.heap.size < W.heap.size := by subst hW; simp
  have k0 : FlW p o (h || anyP xs ys 0) w W := by subst hW; exact flag_is (by simp [anyP]) ((FlW.refl f).alloc _)
  clear hW
  go_loopw [10] (fun i wr => ∃ (k : Nat) (B : Bool) (m : Int), k ≤ N ∧ i = .int .i64 k ∧ FlW p o (h || anyP xs ys k) w wr ∧ w.heap.size < wr.heap.size ∧ wr.heap[w.heap.size]? = some (.cells #[.int .u64 (wh m), .int .u64 (wl m), .bool B] 127 (0, 0)) ∧
      qval B m = sumP xs ys k ∧ 0 ≤ m ∧ m ≤ 1329227995784915872903807060280344576 * (k : Int)) (fun i _ => N - (intOf i).toNat)
  case atStart => exact ⟨0, false, 0, Nat.zero_le _, rfl, k0, hz0, hR0, rfl, by omega, by omega⟩
  case round =>
    obtain ⟨k, B, m, hk, rfl, hF, hz, hc, hq, hm0, hm1⟩ := hrel
    have e0 : wr.cell? ⟨w.heap.size, 0, none⟩ = some (.int .u64 (wh m)) := by rw [cell_of_row wr _ _ _ _ _ hc]; rfl
    have e1 : wr.cell? ⟨w.heap.size, 1, none⟩ = some (.int .u64 (wl m)) := by rw [cell_of_row wr _ _ _ _ _ hc]; rfl
    have e2 : wr.cell? ⟨w.heap.size, 2, none⟩ = some (.bool B) := by rw [cell_of_row wr _ _ _ _ _ hc]; rfl
    have fr := hF.fl f
    by_cases hlt : k < N
    · have hxk := (hF.cell (b := a) (i := ao + k) ha (.inl hap)).trans (hx.at_ k hlt)
      have hyk := (hF.cell (b := b) (i := bo + k) hb (.inl hbp)).trans (hy.at_ k hlt)
      have hRp : w.heap.size ≠ p := by have := f.lt; omega
      have ha' : a < wr.heap.size := by omega
      have hb' : b < wr.heap.size := by omega
      have hltI : (k : Int) < (N : Int) := by omega
      have hlt1 : (k : Int) < 100 := by omega
      have hk0 : (0 : Int) ≤ (k : Int) := by omega
      obtain ⟨C, Z, B', m', HM, HA, hq', hm0', hm1'⟩ := qdot_calls (xs k) (ys k) k (by omega) hq hm0 hm1
      have HM := Lib.hid HM
      have HA := Lib.hid HA
      have HQ := Lib.hid hq'
      have HX := Lib.hid (And.intro hm0' hm1')
      clear hq' hm0' hm1' hq hm0 hm1
      go_upto_region 5 with (fail)
      go_region_with (first
          | (go_at_call_of 110 (Value.int .i64 (xs k)); refine (qsat p o (xs k) _ _ (by first | exact fr | exact fr.drew)).mono ?_; rintro e w4 ⟨rfl, kk⟩; have c0 := (kk.cell hz (.inl hRp)).trans e0; have c1 := (kk.cell hz (.inl hRp)).trans e1; have c2 := (kk.cell hz (.inl hRp)).trans e2; have z4 := Nat.lt_of_lt_of_le hz kk.size; have b4 := (kk.block hz hRp).trans hc; have y4 := (kk.cell hb' (.inl hbp)).trans hyk)
          | (go_at_call_of 110 (Value.int .i64 (ys k)); refine (qsat p o (ys k) _ _ (kk.fl (by first | exact fr | exact fr.drew))).mono ?_; rintro e w5 ⟨rfl, kl⟩; have d0 := (kl.cell z4 (.inl hRp)).trans c0; have d1 := (kl.cell z4 (.inl hRp)).trans c1; have d2 := (kl.cell z4 (.inl hRp)).trans c2; have z5 := Nat.lt_of_lt_of_le z4 kl.size; have b5 := (kl.block z4 hRp).trans b4)
          | (go_at_call 121; refine (HM.out _).mono ?_; rintro e w6 ⟨rfl, hb6⟩; have q0 := (hb6.cell z5).trans d0; have q1 := (hb6.cell z5).trans d1; have q2 := (hb6.cell z5).trans d2; have z6 := Nat.lt_of_lt_of_le z5 hb6.size; have b6 := (hb6.block _ z5).trans b5)
          | (go_at_call 120; refine (HA.out _).mono ?_; rintro e w7 ⟨rfl, hb7⟩; have z7 := Nat.lt_of_lt_of_le z6 hb7.size; have b7 := (hb7.block _ z6).trans b6; have r0 : w7.frozen? ⟨w.heap.size, 0, none⟩ = false := free_of_block b7 0; have r1 : w7.frozen? ⟨w.heap.size, 1, none⟩ = false := free_of_block b7 1; have r2 : w7.frozen? ⟨w.heap.size, 2, none⟩ = false := free_of_block b7 2; have i0 := (hb7.cell z6).trans q0; have i1 := (hb7.cell z6).trans q1; have i2 := (hb7.cell z6).trans q2; have m7 := ((kk.trans kl).then hb6).then hb7))
      all_goals
        go_wp2_with fail
        go_roundw
        case rel =>
          refine ⟨k + 1, B', m', by omega, by go_num, flag_is (by simp [anyP, Bool.or_assoc]) ((((FlW.trans (by first | exact hF.drew | exact hF) m7).other (Nat.le_refl _) _).other (Nat.le_refl _) _).other (Nat.le_refl _) _), ?_, ?_, HQ.out, HX.out.1, HX.out.2⟩
          · rw [size_set, size_set, size_set]; exact z7
          · exact heap_set3 b7 _ _ _
        case measure => simp [intOf]; omega
    · obtain rfl : k = N := by omega
      have hge : ¬ (k : Int) < (k : Int) := by omega
      have hN' : m.toNat + halfOf s < 340282366920938463463374607431768211456 := by have := half_le s (by omega); omega
      have em : ((m.toNat : Nat) : Int) = m := Int.toNat_of_nonneg hm0
      have HS := Lib.hid (fun w => q_shift m.toNat s B w (by omega) hN')
      have HE := Lib.hid (fun h w f => qend p o B (rq m.toNat s : Nat) h w f (inq_nat (rq_bound _ s (by omega) (by omega))))
      rw [rnd_qval, em, hq] at HE
      rw [em] at HS
      go_wp2_with fail
      refine (HS.out _).mono ?_
      rintro e w7 ⟨rfl, hb7⟩
      have fr := fr.below hb7
      have hF := hF.then hb7
      go_wp2_with fail
      refine (HE.out _ _ fr).mono ?_
      rintro e w8 ⟨rfl, kk⟩
      go_wp2_with fail
      go_ret
      exact ⟨rfl, hF.trans kk⟩
end Go.Proofs.Ytdleeeahonfnkaa
