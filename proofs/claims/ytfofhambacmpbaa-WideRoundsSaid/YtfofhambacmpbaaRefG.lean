/- The document's own numbers: Round. -/
import Derived.Test.YtfofhambacmpbaaRefF
namespace Go.Proofs.Ytfofhambacmpbaa
open Go.RowKit

theorem pow_is (k : Nat) (hk : k ≤ 250) (x : Int) (w : World) (hx : x = k) :
    Calls Try.prog 35 #[.int .i64 x] w fun e w' => e = .returned (BgR false (2 ^ k)) ∧ Below w.heap.size w w' := by
  subst hx; exact pow_any k hk w
set_option maxRecDepth 100000 in
set_option maxHeartbeats 4000000 in
theorem round_zero (z : Int) (w : World) :
    Calls Try.prog 36 #[Bg z, .int .i64 0] w fun e w' => e = .returned (Bg z) ∧ Below w.heap.size w w' := by
  go_enter Try.func36, Try.ntmps36
  go_wp2
  exact bodyPost_ret (v := Bg z) (by simp [results, Try.results36, go_sem]) rfl ⟨rfl, ((Below.refl _ _).alloc (Nat.le_refl _) _).alloc (by simp) _⟩
theorem upd_again (f : Nat → Int) (i : Nat) (u v : Int) (j : Nat) : upd (upd f i u) i v j = upd f i v j := by
  unfold upd
  by_cases h : j = i <;> simp [h]
theorem q_step {w : World} {t : TypeId} {B N s i : Nat} {v : Int} (h : Has8 w t B (mix (shD N s) (fun _ => 0) i)) (hi : i < 8) (hv : v = shD N s i) : Has8 (w.setCell ⟨B, i, none⟩ (.int .u64 v)) t B (mix (shD N s) (fun _ => 0) (i + 1)) := by
  subst hv
  exact (h.set i hi _).congr fun j _ => mix_upd _ _ i j
theorem q_after {w : World} {t : TypeId} {B N s i : Nat} {u v : Int} (h : Has8 w t B (upd (mix (shD N s) (fun _ => 0) i) i u)) (hi : i < 8) (hv : v = shD N s i) : Has8 (w.setCell ⟨B, i, none⟩ (.int .u64 v)).drew t B (mix (shD N s) (fun _ => 0) (i + 1)) := by
  subst hv
  exact (h.set i hi _).congr fun j _ => (upd_again _ _ _ _ _).trans (mix_upd _ _ i j)
theorem q_after2 {w : World} {t : TypeId} {B N s i : Nat} {u u' v : Int} (h : Has8 w t B (upd (mix (shD N s) (fun _ => 0) i) i u)) (hi : i < 8) (hv : v = shD N s i) : Has8 ((w.setCell ⟨B, i, none⟩ (.int .u64 u')).setCell ⟨B, i, none⟩ (.int .u64 v)).drew t B (mix (shD N s) (fun _ => 0) (i + 1)) := by
  subst hv
  exact ((h.set i hi u').set i hi _).congr fun j _ => (upd_again _ _ _ _ _).trans ((upd_again _ _ _ _ _).trans (mix_upd _ _ i j))
theorem shD_even (N s i : Nat) (h : s % 32 = 0) : shD N s i = dg N (i + s / 32) := by
  rw [shD_split, h]
  simp
theorem Has9.drew {w : World} {t : TypeId} {B : Nat} {s : Bool} {f : Nat → Int} (h : Has9 w t B s f) : Has9 w.drew t B s f := h
theorem q_step2 {w : World} {t : TypeId} {B N s i : Nat} {u v : Int} (h : Has8 w t B (mix (shD N s) (fun _ => 0) i)) (hi : i < 8) (hv : v = shD N s i) : Has8 ((w.setCell ⟨B, i, none⟩ (.int .u64 u)).setCell ⟨B, i, none⟩ (.int .u64 v)) t B (mix (shD N s) (fun _ => 0) (i + 1)) := by
  subst hv
  exact ((h.set i hi u).set i hi _).congr fun j _ => (upd_again _ _ _ _ _).trans (mix_upd _ _ i j)
set_option maxRecDepth 100000 in
set_option maxHeartbeats 4000000 in
theorem round_ref (z : Int) (s : Nat) (w : World) (hs0 : 0 < s) (hs : s ≤ 126) (hz : z.natAbs < B8) (hN : z.natAbs + 2 ^ (s - 1) < B8) :
    Calls Try.prog 36 #[Bg z, .int .i64 s] w fun e w' => e = .returned (Bg (rnd z s)) ∧ Below w.heap.size w w' := by
  have hfd := field_P
  have t0 : ((s : Int) == 0) = false := beq_eq_false_iff_ne.2 (by omega)
  have hwS : IntKind.i64.wrap ((s : Int) - 1) = (s : Int) - 1 := by rw [IntKind.wrap_i64]; omega
  have HwS := Lib.hid hwS
  clear hwS
  go_enter Try.func36, Try.ntmps36
  go_upto_region 3 with (fail)
  generalize hW : World.alloc (World.alloc w _) _ = Y
  have fa : Has9 Y 38 w.heap.size (decide (z < 0)) (dg z.natAbs) := by subst hW; exact (Has9.made_at w _ (B := w.heap.size) rfl _ _).alloc _
  have fr : Has9 Y 38 (w.heap.size + 1) false (fun _ => 0) := by subst hW; exact Has9.made_at (World.alloc w _) _ (B := w.heap.size + 1) (by simp) false (fun _ => 0)
  have hB : Below w.heap.size w Y := by subst hW; exact ((Below.refl _ _).alloc (Nat.le_refl _) _).alloc (by simp) _
  clear hW
  obtain ⟨a0, a1, a2, a3, a4, a5, a6, a7, a8⟩ := fa.cells
  have la := fa.lt
  have lr := fr.lt
  go_cut [5] (fun s5 wx => ∃ g : Nat, s5 = .pointer (some ⟨g, 0, none⟩) ∧ Y.heap.size ≤ g ∧ Has8 wx 36 g (dg (z.natAbs + 2 ^ (s - 1))) ∧ Below Y.heap.size Y wx)
  case first =>
    go_region_held3 (fun w' => BExt Y w')
      ((show BExt Y _; first | (with_reducible exact BExt.start Y) | (with_reducible exact hJ) | ((iterate 8 ((with_reducible refine BExt.other ?_ (by first | exact Nat.le_refl _ | exact hJ.2.size | exact hz5) _))); with_reducible exact hJ) | (with_reducible refine BExt.alloc ?_ _; with_reducible first | exact hJ | exact BExt.start Y) | (with_reducible exact BExt.drew (BExt.alloc (BExt.start0 Y) _))))
      (first
        | (go_at_call 35; refine (pow_is (s - 1) (by omega) _ _ (HwS.out.trans (by omega))).mono ?_; rintro e w5 ⟨rfl, hb5⟩; have hJ := BExt.call (by assumption) hb5; obtain ⟨hc5, hf5⟩ := bcell hb5; have hz5 := hb5.size; (try simp at hz5); first | (have hz52 : Y.heap.size < w5.heap.size := hz5) | skip)
        | (go_at_call 71; refine (plus_any z.natAbs (2 ^ (s - 1)) _).mono ?_; rintro e w6 ⟨rfl, hb6⟩; have hJ := BExt.call (by assumption) hb6; obtain ⟨hc6, hf6⟩ := bcell hb6; have hz6 := hb6.size; (try simp at hz6); first | (have hz7 : Y.heap.size < w6.heap.size := Nat.lt_of_lt_of_le hz52 hz6) | skip))
    all_goals
      rename_i hI
      have hbY := hI.2
      clear hI
      go_wp2_with fail
      go_meet
      refine ⟨_, rfl, ?_, ?_, hbY⟩
      · first | exact Nat.le_refl _ | omega
      · show Blk _ _ (row8 _) _
        unfold row8
        first
          | (with_reducible exact Blk.made w6 _ _ rfl)
          | (with_reducible exact blk_set8 ((Blk.made w5 _ _ rfl).call hb6) _ _ _ _ _ _ _ _)
          | (with_reducible exact blk_set8 (((Blk.made Y _ _ rfl).drew.call hb5).call hb6) _ _ _ _ _ _ _ _)
  case rest =>
    obtain ⟨g, rfl, hg, fp, hb⟩ := hcut
    have fa := fa.below hb la
    have fr := fr.below hb lr
    have hB := hB.trans (hb.mono hB.size)
    have lg := fp.lt
    have hYw := hb.size
    generalize hNe : z.natAbs + 2 ^ (s - 1) = N at *
    have HNe := Lib.hid hNe
    clear hNe hb a0 a1 a2 a3 a4 a5 a6 a7 a8
    have hr32 : s % 32 < 32 := Nat.mod_lt _ (by omega)
    have r0 : (0 : Int) ≤ (s : Int) % 32 := by omega
    have r1 : (s : Int) % 32 < 32 := by omega
    have r2 : (s : Int) / 32 ≤ 3 := by omega
    have r3 : (0 : Int) ≤ (s : Int) / 32 := by omega
    go_wp2_with fail
    generalize hX : World.alloc wc _ = X
    have fq : Has8 X 36 wc.heap.size (fun _ => 0) := by subst hX; exact Has8.made wc _ (fun _ => 0)
    have fp : Has8 X 36 g (dg N) := by subst hX; exact fp.alloc _
    have fa : Has9 X 38 w.heap.size (decide (z < 0)) (dg z.natAbs) := by subst hX; exact fa.alloc _
    have fr : Has9 X 38 (w.heap.size + 1) false (fun _ => 0) := by subst hX; exact fr.alloc _
    have hB : Below w.heap.size w X := by subst hX; exact hB.alloc hB.size _
    have hwc : w.heap.size + 1 < wc.heap.size := by omega
    clear hX
    have hgq : g ≠ wc.heap.size := by omega
    have hga : w.heap.size + 1 < g := by omega
    clear la lr hYw hg
    go_loopw [7] (fun s7 wr => ∃ i : Nat, i ≤ 8 ∧ s7 = .int .i64 i ∧ Has9 wr 38 w.heap.size (decide (z < 0)) (dg z.natAbs) ∧ Has9 wr 38 (w.heap.size + 1) false (fun _ => 0) ∧ Has8 wr 36 g (dg N) ∧ Has8 wr 36 wc.heap.size (mix (shD N s) (fun _ => 0) i) ∧ Below w.heap.size w wr) (fun s7 _ => 8 - (intOf s7).toNat)
    case atStart => exact ⟨0, by omega, rfl, fa, fr, fp, fq.congr (fun j _ => (mix_zero (shD N s) (fun _ => 0) j).symm), hB⟩
    case round =>
      clear fa fr fp fq hB
      obtain ⟨i, hi, rfl, fa, fr, fp, fq, hB⟩ := hrel
      by_cases hlt : i < 8
      · have i0 : (0 : Int) ≤ i := by omega
        have i8 : (i : Int) < 8 := by omega
        have q1 := fq.cell i hlt
        have q2 := fq.free i
        rw [mix_at] at q1
        have k0 : (0 : Int) ≤ (i : Int) + (s : Int) / 32 := by omega
        have kN : ((i : Int) + (s : Int) / 32).toNat = i + s / 32 := by omega
        by_cases hk : i + s / 32 < 8
        · have kI : (i : Int) + (s : Int) / 32 < 8 := by omega
          have p1 := fp.cell (i + s / 32) hk
          have l1 := (low_bd N (i + s / 32) (s % 32) (by omega)).1
          by_cases hk2 : i + s / 32 + 1 < 8
          · have kI2 : (i : Int) + (s : Int) / 32 + 1 < 8 := by omega
            have p2 := fp.cell (i + s / 32 + 1) hk2
            have l2 := dg_lo N (i + s / 32 + 1)
            have l3 := dg_hi N (i + s / 32 + 1)
            have V1 := Lib.hid (shD_split N s i)
            have V2 := Lib.hid (high_mask (dg N (i + s / 32 + 1)) l2 l3 (s % 32) hr32)
            have V3 := Lib.hid (or_digits N (i + s / 32) (s % 32) hr32)
            have kN2 : ((i : Int) + (s : Int) / 32 + 1).toNat = i + s / 32 + 1 := by omega
            have s32 : (32 - (s : Int) % 32).toNat = 32 - s % 32 := by omega
            have k02 : (0 : Int) ≤ (i : Int) + (s : Int) / 32 + 1 := by omega
            have hw1 : IntKind.i64.wrap ((i : Int) + (s : Int) / 32 + 1) = (i : Int) + (s : Int) / 32 + 1 := by rw [IntKind.wrap_i64]; omega
            have hw2 : IntKind.i64.wrap (32 - (s : Int) % 32) = 32 - (s : Int) % 32 := by rw [IntKind.wrap_i64]; omega
            have hw3 : IntKind.u64.wrap (32 - (s : Int) % 32) = 32 - (s : Int) % 32 := by rw [IntKind.wrap_u64]; omega
            have hw4 : (s : Int).tmod 32 = (s : Int) % 32 := Int.tmod_eq_emod_of_nonneg (by omega)
            go_upto_region 12 with (fail)
            generalize hZ : World.setCell wr _ _ = Z
            have fqZ : Has8 Z 36 wc.heap.size (upd (mix (shD N s) (fun _ => 0) i) i (dg N (i + s / 32) / 2 ^ (s % 32))) := by subst hZ; exact fq.set i hlt _
            have qZ : Z.cell? ⟨wc.heap.size, i, none⟩ = some (.int .u64 (dg N (i + s / 32) / 2 ^ (s % 32))) := by rw [fqZ.cell i hlt]; simp [upd]
            have gZ := fqZ.free i
            have fpZ : Has8 Z 36 g (dg N) := by subst hZ; exact fp.other hgq _
            have pZ := fpZ.cell (i + s / 32 + 1) hk2
            have pZ0 := fpZ.cell (i + s / 32) hk
            have faZ : Has9 Z 38 w.heap.size (decide (z < 0)) (dg z.natAbs) := by subst hZ; exact fa.other (by simp; omega) _
            have frZ : Has9 Z 38 (w.heap.size + 1) false (fun _ => 0) := by subst hZ; exact fr.other (by simp; omega) _
            have hBZ : Below w.heap.size w Z := by subst hZ; exact hB.setCell (by simp; omega) _
            clear hZ fa fr fp fq hB q1 q2 p1 p2
            go_region
            have hval : bits .or .u64 (dg N (i + s / 32) / 2 ^ (s % 32)) (bits .and .u64 (IntKind.u64.wrap (dg N (i + s / 32 + 1) * 2 ^ (32 - s % 32))) 4294967295) = shD N s i := by rw [V2.out, V3.out, ← V1.out]
            have HV := Lib.hid hval
            clear hval
            by_cases hr : s % 32 = 0
            · have t1 : ((s : Int) % 32 == 0) = true := beq_iff_eq.2 (by omega)
              have HR := Lib.hid hr
              clear hr
              go_wp2_with fail
              go_roundw
              case rel => exact ⟨i + 1, by omega, by go_num, ((faZ.other (by simp; omega) _).other (by simp; omega) _).drew, ((frZ.other (by simp; omega) _).other (by simp; omega) _).drew, ((fpZ.other hgq _).other hgq _).drew, q_after2 fqZ hlt (shD_even N s i HR.out).symm, ((hBZ.setCell (by simp; omega) _).setCell (by simp; omega) _).drew⟩
              case measure => simp [intOf]; omega
            · have t1 : ((s : Int) % 32 == 0) = false := beq_eq_false_iff_ne.2 (by omega)
              go_wp2_with fail
              go_roundw
              case rel => exact ⟨i + 1, by omega, by go_num, (faZ.other (by simp; omega) _).drew, (frZ.other (by simp; omega) _).drew, (fpZ.other hgq _).drew, q_after fqZ hlt HV.out, (hBZ.setCell (by simp; omega) _).drew⟩
              case measure => simp [intOf]; omega
          · have kI2 : ¬ (i : Int) + (s : Int) / 32 + 1 < 8 := by omega
            have V1 := Lib.hid (shD_last N s i hN (by omega))
            by_cases hr : s % 32 = 0
            · have t1 : ((s : Int) % 32 == 0) = true := beq_iff_eq.2 (by omega)
              have HR := Lib.hid hr
              clear hr
              go_wp2_with fail
              go_roundw
              case rel =>
                refine ⟨i + 1, by omega, by go_num, (fa.other (by simp; omega) _).other (by simp; omega) _, (fr.other (by simp; omega) _).other (by simp; omega) _, (fp.other hgq _).other hgq _, q_step2 fq hlt ?_, (hB.setCell (by simp; omega) _).setCell (by simp; omega) _⟩
                rw [V1.out, HR.out]; simp
              case measure => simp [intOf]; omega
            · have t1 : ((s : Int) % 32 == 0) = false := beq_eq_false_iff_ne.2 (by omega)
              go_wp2_with fail
              go_roundw
              case rel => exact ⟨i + 1, by omega, by go_num, fa.other (by simp; omega) _, fr.other (by simp; omega) _, fp.other hgq _, q_step fq hlt V1.out.symm, hB.setCell (by simp; omega) _⟩
              case measure => simp [intOf]; omega
        · have kI : ¬ (i : Int) + (s : Int) / 32 < 8 := by omega
          have kI2 : ¬ (i : Int) + (s : Int) / 32 + 1 < 8 := by omega
          have hm : ∀ j, mix (shD N s) (fun _ => 0) i j = mix (shD N s) (fun _ => 0) (i + 1) j := fun j => by
            unfold mix
            by_cases h1 : j < i
            · rw [if_pos h1, if_pos (by omega)]
            · rw [if_neg h1]
              by_cases h2 : j < i + 1
              · rw [if_pos h2, show j = i by omega, shD_high N s i hN (by omega)]
              · rw [if_neg h2]
          have HM := Lib.hid hm
          clear hm
          by_cases hr : s % 32 = 0
          · have t1 : ((s : Int) % 32 == 0) = true := beq_iff_eq.2 (by omega)
            go_wp2_with fail
            go_roundw
            case rel => exact ⟨i + 1, by omega, by go_num, fa, fr, fp, fq.congr (fun j _ => HM.out j), hB⟩
            case measure => simp [intOf]; omega
          · have t1 : ((s : Int) % 32 == 0) = false := beq_eq_false_iff_ne.2 (by omega)
            go_wp2_with fail
            go_roundw
            case rel => exact ⟨i + 1, by omega, by go_num, fa, fr, fp, fq.congr (fun j _ => HM.out j), hB⟩
            case measure => simp [intOf]; omega
      · obtain rfl : i = 8 := by omega
        obtain ⟨a0, a1, a2, a3, a4, a5, a6, a7, a8⟩ := fa.cells
        obtain ⟨q0, q1, q2, q3, q4, q5, q6, q7⟩ := fq.cells
        rw [mix_all _ _ _ _ (by omega)] at q0 q1 q2 q3 q4 q5 q6 q7
        have hs1 : w.heap.size + 1 < wr.heap.size := fr.lt
        have hs0' : w.heap.size ≤ wr.heap.size := by omega
        have hI := Inv.start0 (there_of_row fr 9 (by decide)) hB
        have hNs : N / 2 ^ s < B8 := Nat.lt_of_le_of_lt (Nat.div_le_self _ _) hN
        have HZ := Lib.hid (show (if decide (z < 0) = true then -((N / 2 ^ s : Nat) : Int) else ((N / 2 ^ s : Nat) : Int)) = rnd z s by
          rw [← HNe.out]
          unfold rnd withSign rq halfOf
          rw [if_neg (by omega : ¬ s = 0)])
        clear fa fr fp fq hB
        unfold shD at q0 q1 q2 q3 q4 q5 q6 q7
        go_wp2_with fail
        refine (made_bg (decide (z < 0)) (N / 2 ^ s) (rnd z s) _ _ hNs rfl HZ.out).mono ?_
        rintro e w1 ⟨rfl, hb⟩
        obtain ⟨j1, j2, j3, j4, j5⟩ := Inv.call hs1 hs0' hI hb
        clear hI
        go_wp2
        exact bodyPost_ret (v := Bg (rnd z s)) (by simp [results, Try.results36, go_sem, j2]) rfl ⟨rfl, Below.set9 (by omega) j4 _ _ _ _ _ _ _ _ _⟩
end Go.Proofs.Ytfofhambacmpbaa
