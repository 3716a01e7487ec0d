/- Lengths: the document's own. -/
import Derived.Test.YtdleeeahonfnkaaQT
import Derived.Deep.DeepCutAuto
import Derived.Test.YtdleeeahonfnkaaQM
namespace Go.Proofs.Ytdleeeahonfnkaa
open Go.RowKit

theorem qhyp_calls (x : Int) (S : Int) (k : Nat) (hk : k < 100) (h0 : 0 ≤ S) (hm : S ≤ 1329227995784915872903807060280344576 * (k : Int)) :
    ∃ Z, (∀ w, Calls Try.prog 121 #[.int .i64 (satv x), .int .i64 (satv x)] w fun e w' => e = .returned (Qv false Z) ∧ Below w.heap.size w w') ∧
      (∀ w, Calls Try.prog 120 #[Qv false S, Qv false Z] w fun e w' => e = .returned (Qv false (S + satv x * satv x)) ∧ Below w.heap.size w w') := by
  have hz : ((satv x).natAbs : Int) * ((satv x).natAbs : Int) = satv x * satv x := by
    rcases Int.le_total 0 (satv x) with h | h
    · rw [Int.natAbs_of_nonneg h]
    · have e : ((satv x).natAbs : Int) = -satv x := by omega
      rw [e, Int.neg_mul_neg]
  have h1 := sq_nn x
  have h2 := sq_le x
  refine ⟨satv x * satv x, fun w => ?_, fun w => ?_⟩
  · have := q_mul (satv x) (satv x) w (satv_lo x) (satv_hi x) (satv_lo x) (satv_hi x)
    rw [bne_self_eq_false, hz] at this
    exact this
  · generalize satv x * satv x = z at *
    have := q_add false false S z w ⟨by omega, by omega⟩ ⟨by omega, by omega⟩ (fun _ => ⟨by omega, by omega⟩)
    simpa [qs, qn] using this
set_option maxHeartbeats 8000000 in
theorem qhypot (p o : Nat) (a ao ac : Nat) (xs : Nat → Int) (N : Nat) (h : Bool) (w : World) (f : Fl p o h w) (hN : N ≤ 62)
    (ha : a < w.heap.size) (hap : a ≠ p) (hx : Ints w a ao N xs) :
    Calls Try.prog 126 #[.pointer (some ⟨p, o, none⟩), .slice (some ⟨a, ao, none⟩) N ac] w fun e w' => e = .returned (.int .i64 (satv (rootN (sumQ xs N).toNat : Nat))) ∧ FlW p o (h || anyS xs N || sath (rootN (sumQ xs N).toNat : Nat)) w w' := by
  go_enter Try.func126, Try.ntmps126
  go_wp2_with fail
  generalize hW : World.alloc w _ = W
  have hR0 : W.heap[w.heap.size]? = some (.cells #[.int .u64 (wh (sumQ xs 0)), .int .u64 (wl (sumQ xs 0)), .bool false] 127 (0, 0)) := by subst hW; exact heap_alloc_new w _
  have hz0 : w.heap.size < W.heap.size := by subst hW; simp
  have k0 : FlW p o (h || anyS xs 0) w W := by subst hW; exact flag_is (by simp [anyS]) ((FlW.refl f).alloc _)
  clear hW
  go_loopw [6] (fun i wr => ∃ (k : Nat), k ≤ N ∧ i = .int .i64 k ∧ FlW p o (h || anyS xs k) w wr ∧ w.heap.size < wr.heap.size ∧ wr.heap[w.heap.size]? = some (.cells #[.int .u64 (wh (sumQ xs k)), .int .u64 (wl (sumQ xs k)), .bool false] 127 (0, 0))) (fun i _ => N - (intOf i).toNat)
  case atStart => exact ⟨0, Nat.zero_le _, rfl, k0, hz0, hR0⟩
  case round =>
    obtain ⟨k, hk, rfl, hF, hz, hc⟩ := hrel
    have hS := sumQ_bd xs k
    have e0 : wr.cell? ⟨w.heap.size, 0, none⟩ = some (.int .u64 (wh (sumQ xs k))) := by rw [cell_of_row wr _ _ _ _ _ hc]; rfl
    have e1 : wr.cell? ⟨w.heap.size, 1, none⟩ = some (.int .u64 (wl (sumQ xs k))) := by rw [cell_of_row wr _ _ _ _ _ hc]; rfl
    have e2 : wr.cell? ⟨w.heap.size, 2, none⟩ = some (.bool false) := by rw [cell_of_row wr _ _ _ _ _ hc]; rfl
    have fr := hF.fl f
    by_cases hlt : k < N
    · have hxk := (hF.cell (b := a) (i := ao + k) ha (.inl hap)).trans (hx.at_ k hlt)
      have hRp : w.heap.size ≠ p := by have := f.lt; omega
      have ha' : a < wr.heap.size := by omega
      have hltI : (k : Int) < (N : Int) := by omega
      have hlt1 : (k : Int) < 64 := by omega
      have hk0 : (0 : Int) ≤ (k : Int) := by omega
      obtain ⟨Z, HM, HA⟩ := qhyp_calls (xs k) (sumQ xs k) k (by omega) hS.1 hS.2
      have HM := Lib.hid HM
      have HA := Lib.hid HA
      clear hS
      go_wp2_with fail
      refine (qsat p o (xs k) _ _ fr).mono ?_
      rintro e w4 ⟨rfl, kk⟩
      have c0 := (kk.cell hz (.inl hRp)).trans e0
      have c1 := (kk.cell hz (.inl hRp)).trans e1
      have c2 := (kk.cell hz (.inl hRp)).trans e2
      have z4 := Nat.lt_of_lt_of_le hz kk.size
      have b4 := (kk.block hz hRp).trans hc
      have m4 := FlW.trans hF kk
      clear e0 e1 e2 hF hc hz kk fr
      go_upto_region 6 with (fail)
      go_region_with (first
          | (go_at_call 121; refine (HM.out _).mono ?_; rintro e w6 ⟨rfl, hb6⟩; have q0 := (hb6.cell z4).trans c0; have q1 := (hb6.cell z4).trans c1; have q2 := (hb6.cell z4).trans c2; have z6 := Nat.lt_of_lt_of_le z4 hb6.size; have b6 := (hb6.block _ z4).trans b4)
          | (go_at_call 120; refine (HA.out _).mono ?_; rintro e w7 ⟨rfl, hb7⟩; have z7 := Nat.lt_of_lt_of_le z6 hb7.size; have b7 := (hb7.block _ z6).trans b6; have r0 : w7.frozen? ⟨w.heap.size, 0, none⟩ = false := free_of_block b7 0; have r1 : w7.frozen? ⟨w.heap.size, 1, none⟩ = false := free_of_block b7 1; have r2 : w7.frozen? ⟨w.heap.size, 2, none⟩ = false := free_of_block b7 2; have i0 := (hb7.cell z6).trans q0; have i1 := (hb7.cell z6).trans q1; have i2 := (hb7.cell z6).trans q2; have m7 := (FlW.then (by first | exact m4.drew | exact m4) hb6).then hb7))
      all_goals
        go_wp2_with fail
        go_roundw
        case rel =>
          refine ⟨k + 1, by omega, by go_num, flag_is (by simp [anyS, Bool.or_assoc]) (((m7.other (Nat.le_refl _) _).other (Nat.le_refl _) _).other (Nat.le_refl _) _), ?_, ?_⟩
          · rw [size_set, size_set, size_set]; exact z7
          · exact heap_set3 b7 _ _ _
        case measure => simp [intOf]; omega
    · obtain rfl : k = N := by omega
      have hge : ¬ (k : Int) < (k : Int) := by omega
      have em : (((sumQ xs k).toNat : Nat) : Int) = sumQ xs k := Int.toNat_of_nonneg hS.1
      have HS := Lib.hid (fun w => q_root (sumQ xs k).toNat w (by omega))
      have hrt : rootN (sumQ xs k).toNat < 18446744073709551616 := by
        have : isq (sumQ xs k).toNat ≤ 18446744073709551614 := isq_le (by omega)
        unfold rootN
        split <;> omega
      have HE := Lib.hid (fun h w f => qend p o false (rootN (sumQ xs k).toNat : Nat) h w f (inq_nat (by omega)))
      rw [em] at HS
      simp only [qval, Bool.false_eq_true, if_false] at HE
      go_wp2_with fail
      refine (HS.out _).mono ?_
      rintro e w7 ⟨rfl, hb7⟩
      have fr := fr.below hb7
      have hF := hF.then hb7
      go_wp2_with fail
      refine (HE.out _ _ fr).mono ?_
      rintro e w8 ⟨rfl, kk⟩
      go_wp2_with fail
      go_ret
      exact ⟨rfl, hF.trans kk⟩
end Go.Proofs.Ytdleeeahonfnkaa
