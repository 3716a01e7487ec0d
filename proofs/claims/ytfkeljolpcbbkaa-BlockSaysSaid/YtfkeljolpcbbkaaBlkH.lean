/- The document's own: states given new variances. -/
import Derived.Test.YtfkeljolpcbbkaaBlkG
namespace Go.Proofs.Ytfkeljolpcbbkaa
open Go.RowKit

theorem told_no {m : Int} {n t : Nat} (h : ¬ (-1000 ≤ m ∧ m ≤ 24 ∧ m ≤ (t : Int) ∧ (t : Int) < m + n)) : toldB m n t = false := by
  cases hc : toldB m n t
  · rfl
  · exact absurd (toldB_iff.1 hc) h
set_option maxRecDepth 10000 in
set_option maxHeartbeats 8000000 in
theorem rreset_core (p o : Nat) (f : Nat → Int) (m : Int) (pa : Option Addr) (n c : Nat) (l : Nat → Int) (h : Bool) (w : World) (fl : Fl p o h w) (G V : Nat → Int) (H : Bool) (eq1 : ∀ k, k < 576 → rrG m n 24 k = G k) (eq2 : ∀ k, k < 24 → rrQ m l n 24 k = V k) (eq3 : (h || rrH m l n 24) = H) (hm : -900 ≤ m ∧ m ≤ 900) (hn : n ≤ 900) (hl : SlP w p pa n l) :
    Calls Try.prog 107 #[.pointer (some ⟨p, o, none⟩), .agg (rowA 300 f), .int .i64 m, .slice pa n c] w fun e w' => e = .returned (.agg (rowA 300 (stepF f G V))) ∧ FlW p o (H || stepH f G V) w w' := by
  have hpw := fl.lt
  have HE := Lib.hid (And.intro eq1 (And.intro eq2 eq3))
  clear eq1 eq2 eq3
  go_enter Try.func107, Try.ntmps107
  go_upto_region 1 with (fail)
  rw [zeroCov]
  generalize hW : World.alloc (World.alloc w _) _ = X
  have hs : Fr w p o h (LR w f) X := by
    subst hW
    refine ⟨((FlW.refl fl).alloc _).alloc _, fun x hx => ?_⟩
    simp only [LR, List.mem_cons, List.not_mem_nil, or_false] at hx
    rcases hx with rfl | rfl
    · exact ⟨Nat.le_refl _, (Blk.made _ _ _ rfl).alloc _⟩
    · exact ⟨Nat.le_succ _, Blk.made _ _ _ (by simp)⟩
  clear hW
  go_wp2_with fail
  refine (runit_any _).mono ?_
  rintro e w1 ⟨rfl, hb1⟩
  replace hs := hs.call hb1
  clear hb1
  have hS0 : Blk (w1.alloc (.cells Try.zeroCells109 109)) w1.heap.size (rowA 576 fun _ => 0) 109 := by rw [zeroG]; exact Blk.made _ _ _ rfl
  go_upto_region 2 with ((with_reducible refine row_store 109 (.tmp 9) (.tmp 13) ?_ ?_ w1.heap.size 576 oneG (fun _ => 0) 109 ?_ ?_ hS0 gSize ?_); rfl; rfl; rfl; rfl)
  clear hS0
  rw [zeroG]
  have fF := (hs.fresh 576 109).set (r := oneG)
  replace hs := (hs.alloc (.cells (rowA 576 fun _ => 0) 109)).row fF.lo fF.gt (rowA 576 oneG)
  generalize World.setRow _ _ _ = w2 at *
  generalize w1.heap.size = F at *
  have fQ := (hs.fresh 24 91).set (r := fun _ => 0)
  have hne := Nat.ne_of_lt fF.blk.lt
  have hQ0 : ∀ z : Array Value, z = rowA 24 (fun _ => 0) → Blk (w2.alloc (.cells z 91)) w2.heap.size (rowA 24 fun _ => 0) 91 := by rintro z rfl; exact (hs.fresh 24 91).blk
  have hR : Rr w p o h f F w2.heap.size oneG (fun _ => 0) ((w2.alloc (.cells (rowA 24 fun _ => 0) 91)).setRow w2.heap.size (rowA 24 fun _ => 0)) := ⟨(hs.alloc _).row fQ.lo fQ.gt _, (fF.alloc _).otherRow hne _, fQ, hne⟩
  clear hs fF fQ
  go_upto_region 3 with (first
    | (refine build_none ?_ 91 ?_ 24 (fun _ => 0) built24 ?_; rfl; rfl)
    | ((with_reducible refine row_store 91 (.tmp 10) (.tmp 14) ?_ ?_ w2.heap.size 24 (fun _ => 0) (fun _ => 0) 91 ?_ ?_ (hQ0 _ zero24) rowDSize ?_); rfl; rfl; rfl; rfl))
  rw [zero24]
  clear hQ0 hne
  generalize World.setRow _ _ _ = w3 at *
  generalize w2.heap.size = Q at *
  replace hR := hR.as (g2 := rrG m n 0) (q2 := rrQ m l n 0) rfl rfl (show h = (h || rrH m l n 0) by rw [rrH, Bool.or_false])
  go_wp2_with fail
  go_loopw [11] (fun i' wr => ∃ t : Nat, t ≤ 24 ∧ i' = .int .i64 t ∧ Rr w p o (h || rrH m l n t) f F Q (rrG m n t) (rrQ m l n t) wr) (fun i' _ => 24 - (intOf i').toNat)
  case atStart => exact ⟨0, by omega, rfl, hR⟩
  case round =>
    clear hR
    obtain ⟨t, ht, rfl, hR⟩ := hrel
    by_cases hlt : t < 24
    · have hltI : (t : Int) < 24 := by omega
      have ht0 : (0 : Int) ≤ (t : Int) := by omega
      have hx := wrap64_in ((t : Int) - m) (by omega) (by omega)
      have hc1 : (-1000 : Int) ≤ m := by omega
      have HG := Lib.hid (And.intro (show rrG m n (t + 1) = bif toldB m n t then upd (rrG m n t) (25 * t) 0 else rrG m n t from rfl) (And.intro (show rrQ m l n (t + 1) = bif toldB m n t then upd (rrQ m l n t) t (clampv (l ((t : Int) - m).toNat) 1 72057594037927936) else rrQ m l n t from rfl)
        (show (h || rrH m l n (t + 1)) = (h || rrH m l n t || (toldB m n t && clamph (l ((t : Int) - m).toNat) 1 72057594037927936)) by rw [rrH, Bool.or_assoc])))
      generalize (h || rrH m l n t) = g0 at *
      generalize rrG m n t = g at *
      generalize rrQ m l n t = q at *
      go_upto_region 7 with (fail)
      clear hx
      by_cases hc : m ≤ 24 ∧ m ≤ (t : Int) ∧ (t : Int) < m + n
      · have HT : toldB m n t = true := toldB_iff.2 ⟨hc1, hc⟩
        rw [HT] at HG
        obtain ⟨y, hy⟩ : ∃ y : Nat, (t : Int) - m = (y : Int) := ⟨((t : Int) - m).toNat, by omega⟩
        rw [hy] at HG ⊢
        have hyn : y < n := by omega
        have hynI : (y : Int) < (n : Int) := by omega
        have hy0 : (0 : Int) ≤ (y : Int) := by omega
        have hm24 : m ≤ 24 := hc.1
        obtain ⟨b, ob, rfl, hbp, hbw, hI⟩ := hl (by omega)
        rw [Int.toNat_natCast] at HG
        have HG2 := Lib.hid (And.intro (show rrG m n (t + 1) = upd g (t * 24 + t) 0 by rw [HG.out.1, cond_true, show 25 * t = t * 24 + t by omega]) (And.intro (show rrQ m l n (t + 1) = upd q t (clampv (l y) 1 72057594037927936) from HG.out.2.1) (show (h || rrH m l n (t + 1)) = (g0 || clamph (l y) 1 72057594037927936) by rw [HG.out.2.2, Bool.true_and])))
        clear HG HT hc hy hl
        have hc := hR.fF.blk.cell (t * 24 + t)
        rw [rowA_get _ (by omega)] at hc
        have hf := hR.fF.blk.free (t * 24 + t)
        have hR2 := hR.setF (k := t * 24 + t) (by omega) 0
        have c1 := (hR2.s.F.cell (b := b) (i := ob + y) hbw (.inl hbp)).trans (hI.at_ y hyn)
        have fl2 := hR2.s.F.fl fl
        have HR := Lib.hid hR2
        clear hR hR2 hI
        go_upto_region 9 with (fail)
        clear hc hf
        generalize World.setCell _ _ _ = w4 at *
        go_region_with (first
          | (go_at_call 139; refine (qclamp p o (l y) 1 72057594037927936 _ _ fl2.drew).mono ?_; rintro e' w5 ⟨rfl, kk⟩; have hR5 := HR.out.drew.flag hpw kk; have hc := hR5.fQ.blk.cell t; rw [rowA_get _ hlt] at hc; have hf := hR5.fQ.blk.free t))
        all_goals
          have HS := Lib.hid (hR5.setQ (k := t) hlt (clampv (l y) 1 72057594037927936))
          clear hR5 HR kk
          go_wp2_with fail
          go_roundw
          case rel => exact ⟨t + 1, by omega, by go_num, HS.out.as HG2.out.1.symm HG2.out.2.1.symm HG2.out.2.2.symm⟩
          case measure => simp [intOf]; omega
      · rw [told_no (fun x => hc x.2)] at HG
        have HG2 := Lib.hid (And.intro (show g = rrG m n (t + 1) from HG.out.1.symm) (And.intro (show q = rrQ m l n (t + 1) from HG.out.2.1.symm) (show g0 = (h || rrH m l n (t + 1)) by rw [HG.out.2.2, Bool.false_and, Bool.or_false])))
        clear HG
        have HS := Lib.hid hR
        clear hR hl
        by_cases h24 : m ≤ 24
        · by_cases hx0 : (0 : Int) ≤ (t : Int) - m
          · have hxn : ¬ (t : Int) - m < (n : Int) := by omega
            generalize (t : Int) - m = x at *
            clear hc
            go_wp2_with fail
            go_roundw
            case rel => exact ⟨t + 1, by omega, by go_num, HS.out.as HG2.out.1 HG2.out.2.1 HG2.out.2.2⟩
            case measure => simp [intOf]; omega
          · generalize (t : Int) - m = x at *
            clear hc
            go_wp2_with fail
            go_roundw
            case rel => exact ⟨t + 1, by omega, by go_num, HS.out.as HG2.out.1 HG2.out.2.1 HG2.out.2.2⟩
            case measure => simp [intOf]; omega
        · generalize (t : Int) - m = x at *
          clear hc
          go_wp2_with fail
          go_roundw
          case rel => exact ⟨t + 1, by omega, by go_num, HS.out.as HG2.out.1 HG2.out.2.1 HG2.out.2.2⟩
          case measure => simp [intOf]; omega
    · obtain rfl : t = 24 := by omega
      clear hlt ht hl
      have hlI : ¬ ((24 : Nat) : Int) < 24 := by omega
      replace hR := hR.congr HE.out.1 HE.out.2.1 HE.out.2.2
      clear HE
      have hP := hR.P
      have hQ := hR.fQ.blk
      go_wp2_with (first
        | (refine row_load 93 (.tmp 5) ?_ ?_ w.heap.size 300 f 93 ?_ hP _ Try.underlying93 ?_ covSize ?_; rfl; rfl; rfl; rfl)
        | (refine row_load 91 (.tmp 10) ?_ ?_ Q 24 V 91 ?_ hQ _ Try.underlying91 ?_ rowDSize ?_; rfl; rfl; rfl; rfl))
      refine (rstep_any p o F 0 f G V H _ (hR.s.F.fl fl) hR.fF.blk.lt (by have := hR.fF.lo; omega) hR.fF.blk.ints).mono ?_
      rintro e w5 ⟨rfl, k5⟩
      replace hR := hR.flag hpw k5
      clear k5 hP hQ
      have hR2 := hR.R
      go_wp2_with (refine row_store 93 (.tmp 8) (.tmp 55) ?_ ?_ (w.heap.size + 1) 300 (stepF f G V) (fun _ => 0) 93 ?_ ?_ hR2 covSize ?_; rfl; rfl; rfl; rfl)
      exact bodyPost_ret (v := .agg (rowA 300 (stepF f G V))) (results_row rfl _ _ (w.heap.size + 1) 300 _ _ _ rfl hR2.setRow Try.underlying93 rfl covSize) rfl ⟨rfl, hR.s.F.row (Nat.le_succ _) _⟩
theorem rreset_any (p o : Nat) (f : Nat → Int) (m : Int) (pa : Option Addr) (n c : Nat) (l : Nat → Int) (h : Bool) (w : World) (fl : Fl p o h w) (hm : -900 ≤ m ∧ m ≤ 900) (hn : n ≤ 900) (hl : SlP w p pa n l) :
    Calls Try.prog 107 #[.pointer (some ⟨p, o, none⟩), .agg (rowA 300 f), .int .i64 m, .slice pa n c] w fun e w' => e = .returned (.agg (rowA 300 (resetF f m l n))) ∧ FlW p o (h || resetH f m l n) w w' := by
  obtain ⟨e1, e2, e3⟩ := rr_same hm l hn
  refine (rreset_core p o f m pa n c l h w fl (rsS m l n) (tailS (rsS m l n)) (h || rsH m l n) e1 e2 (by rw [e3]) hm hn hl).mono ?_
  rintro e w' ⟨rfl, k⟩
  exact ⟨rfl, flag_is (by unfold resetH; rw [Bool.or_assoc]) k⟩
end Go.Proofs.Ytfkeljolpcbbkaa
