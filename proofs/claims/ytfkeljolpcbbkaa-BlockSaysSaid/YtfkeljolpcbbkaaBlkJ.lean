/- The document's own: states forgotten. -/
import Derived.Test.YtfkeljolpcbbkaaBlkH
namespace Go.Proofs.Ytfkeljolpcbbkaa
open Go.RowKit

set_option maxRecDepth 10000 in
set_option maxHeartbeats 8000000 in
theorem rforget_any (p o : Nat) (f : Nat → Int) (pa : Option Addr) (n c : Nat) (l : Nat → Int) (h : Bool) (w : World) (fl : Fl p o h w) (hn : n ≤ 9223372036854775807) (hl : SlP w p pa n l) :
    Calls Try.prog 111 #[.pointer (some ⟨p, o, none⟩), .agg (rowA 300 f), .slice pa n c] w fun e w' => e = .returned (.agg (rowA 300 (forgetF f l n))) ∧ FlW p o (h || forgetH f l n) w w' := by
  have hpw := fl.lt
  go_enter Try.func111, Try.ntmps111
  go_upto_region 1 with (fail)
  rw [zeroCov]
  generalize hW : World.alloc (World.alloc w _) _ = X
  have hs : Fr w p o h (LR w f) X := by
    subst hW
    refine ⟨((FlW.refl fl).alloc _).alloc _, fun x hx => ?_⟩
    simp only [LR, List.mem_cons, List.not_mem_nil, or_false] at hx
    rcases hx with rfl | rfl
    · exact ⟨Nat.le_refl _, (Blk.made _ _ _ rfl).alloc _⟩
    · exact ⟨Nat.le_succ _, Blk.made _ _ _ (by simp)⟩
  clear hW
  go_wp2_with fail
  refine (runit_any _).mono ?_
  rintro e w1 ⟨rfl, hb1⟩
  replace hs := hs.call hb1
  clear hb1
  have hS0 : Blk (w1.alloc (.cells Try.zeroCells109 109)) w1.heap.size (rowA 576 fun _ => 0) 109 := by rw [zeroG]; exact Blk.made _ _ _ rfl
  go_upto_region 2 with ((with_reducible refine row_store 109 (.tmp 7) (.tmp 11) ?_ ?_ w1.heap.size 576 oneG (fun _ => 0) 109 ?_ ?_ hS0 gSize ?_); rfl; rfl; rfl; rfl)
  clear hS0
  rw [zeroG]
  have fF := (hs.fresh 576 109).set (r := oneG)
  replace hs := (hs.alloc (.cells (rowA 576 fun _ => 0) 109)).row fF.lo fF.gt (rowA 576 oneG)
  generalize World.setRow _ _ _ = w2 at *
  generalize w1.heap.size = F at *
  have fQ := (hs.fresh 24 91).set (r := fun _ => 0)
  have hne := Nat.ne_of_lt fF.blk.lt
  have hQ0 : ∀ z : Array Value, z = rowA 24 (fun _ => 0) → Blk (w2.alloc (.cells z 91)) w2.heap.size (rowA 24 fun _ => 0) 91 := by rintro z rfl; exact (hs.fresh 24 91).blk
  have hR : Rr w p o h f F w2.heap.size oneG (fun _ => 0) ((w2.alloc (.cells (rowA 24 fun _ => 0) 91)).setRow w2.heap.size (rowA 24 fun _ => 0)) := ⟨(hs.alloc _).row fQ.lo fQ.gt _, (fF.alloc _).otherRow hne _, fQ, hne⟩
  clear hs fF fQ
  go_upto_region 3 with (first
    | (refine build_none ?_ 91 ?_ 24 (fun _ => 0) built24 ?_; rfl; rfl)
    | ((with_reducible refine row_store 91 (.tmp 8) (.tmp 12) ?_ ?_ w2.heap.size 24 (fun _ => 0) (fun _ => 0) 91 ?_ ?_ (hQ0 _ zero24) rowDSize ?_); rfl; rfl; rfl; rfl))
  rw [zero24]
  clear hQ0 hne
  generalize World.setRow _ _ _ = w3 at *
  generalize w2.heap.size = Q at *
  replace hR := hR.congr (g2 := rfS f l 0) (q2 := tailS (rfS f l 0)) (h2 := (h || rfH f l 0)) (fun k hk => (if_pos hk).symm) (fun k hk => by unfold tailS; exact (if_neg (by omega)).symm) (by rw [rfH, Bool.or_false])
  go_wp2_with fail
  go_loopw [9] (fun i' wr => ∃ k : Nat, k ≤ n ∧ i' = .int .i64 k ∧ Rr w p o (h || rfH f l k) f F Q (rfS f l k) (tailS (rfS f l k)) wr) (fun i' _ => n - (intOf i').toNat)
  case atStart => exact ⟨0, by omega, rfl, hR⟩
  case round =>
    clear hR
    obtain ⟨k, hk, rfl, hR⟩ := hrel
    by_cases hlt : k < n
    · have hltI : (k : Int) < (n : Int) := by omega
      have hk0 : (0 : Int) ≤ (k : Int) := by omega
      obtain ⟨b, ob, rfl, hbp, hbw, hI⟩ := hl (by omega)
      clear hl
      have c1 := (hR.s.F.cell (b := b) (i := ob + k) hbw (.inl hbp)).trans (hI.at_ k hlt)
      have HG := Lib.hid (And.intro (show rfS f l (k + 1) = bif inN (l k) && !decide (rfS f l k (25 * (l k).toNat) = 0) then bgS (rfS f l k) (l k) (atV f (l k) (l k)) else rfS f l k from rfl)
        (show (h || rfH f l (k + 1)) = (bif inN (l k) && !decide (rfS f l k (25 * (l k).toNat) = 0) then (h || rfH f l k || (atH f (l k) (l k) || clamph (atV f (l k) (l k)) 1 72057594037927936)) else (h || rfH f l k)) by rw [rfH]; cases (inN (l k) && !decide (rfS f l k (25 * (l k).toNat) = 0)) <;> simp [Bool.or_assoc]))
      clear hI
      generalize (h || rfH f l k) = g0 at *
      generalize rfS f l k = s at *
      go_upto_region 7 with (fail)
      clear c1
      generalize l k = x at *
      cases hi : inN x
      · rw [hi, Bool.false_and, cond_false, cond_false] at HG
        have HS := Lib.hid (hR.as HG.out.1.symm (congrArg tailS HG.out.1.symm) HG.out.2.symm)
        clear hR HG
        rw [inN_no] at hi
        by_cases hx0 : (0 : Int) ≤ x
        · have hx24 : ¬ x < 24 := by omega
          clear hi
          go_wp2_with fail
          go_roundw
          case rel => exact ⟨k + 1, by omega, by go_num, HS.out⟩
          case measure => simp [intOf]; omega
        · clear hi
          go_wp2_with fail
          go_roundw
          case rel => exact ⟨k + 1, by omega, by go_num, HS.out⟩
          case measure => simp [intOf]; omega
      · rw [hi, Bool.true_and] at HG
        rw [inN_iff] at hi
        obtain ⟨i, rfl⟩ := Int.eq_ofNat_of_zero_le hi.1
        have hi24 : i < 24 := by omega
        have hiI : (i : Int) < 24 := by omega
        have hi0 : (0 : Int) ≤ (i : Int) := by omega
        clear hi
        rw [Int.toNat_natCast, show 25 * i = i * 24 + i by omega] at HG
        have hc := hR.fF.blk.cell (i * 24 + i)
        rw [rowA_get _ (by omega)] at hc
        have hf := hR.fF.blk.free (i * 24 + i)
        by_cases hz : s (i * 24 + i) = 0
        · rw [decide_eq_true hz, Bool.not_true, cond_false, cond_false] at HG
          rw [hz] at hc
          have HS := Lib.hid (hR.as HG.out.1.symm (congrArg tailS HG.out.1.symm) HG.out.2.symm)
          clear hR HG hf hz
          go_wp2_with fail
          go_roundw
          case rel => exact ⟨k + 1, by omega, by go_num, HS.out⟩
          case measure => simp [intOf]; omega
        · rw [decide_eq_false hz, Bool.not_false, cond_true, cond_true] at HG
          have HB := Lib.hid (And.intro (fun c (hc : c < 576) => show upd s (i * 24 + i) 0 c = bgS s (i : Int) (atV f (i : Int) (i : Int)) c by
              rw [bgS_in hi24, if_neg (by omega)]; unfold upd
              by_cases e : c = i * 24 + i
              · rw [if_pos e, if_pos (by omega)]
              · rw [if_neg e, if_neg (by omega)])
            (fun c (hc : c < 24) => show upd (tailS s) i (clampv (atV f (i : Int) (i : Int)) 1 72057594037927936) c = tailS (bgS s (i : Int) (atV f (i : Int) (i : Int))) c by
              unfold tailS
              rw [bgS_in hi24]
              unfold upd
              by_cases e : c = i
              · rw [if_pos e, if_pos (by omega)]
              · rw [if_neg e, if_neg (by omega), if_neg (by omega)]))
          generalize hv : s (i * 24 + i) = v at *
          clear hv
          have hR2 := hR.setF (k := i * 24 + i) (by omega) 0
          have HR := Lib.hid hR2
          clear hR hR2
          go_upto_region 9 with (fail)
          clear hc hf
          generalize World.setCell _ _ _ = w4 at *
          have fl4 := (HR.out.s.F.fl fl).drew
          have hP4 := HR.out.drew.P
          go_region_with (first
            | (go_at_call 88; refine (rat_any p o w.heap.size 0 f (i : Int) (i : Int) _ _ fl4 hP4.lt (by omega) hP4.ints).mono ?_; rintro e' w5 ⟨rfl, k5⟩; have hR5 := HR.out.drew.flag hpw k5; have fl5 := k5.fl fl4)
            | (go_at_call 139; refine (qclamp p o (atV f (i : Int) (i : Int)) 1 72057594037927936 _ _ fl5).mono ?_; rintro e' w6 ⟨rfl, kk⟩; have hR6 := hR5.flag hpw kk; have hc := hR6.fQ.blk.cell i; rw [rowA_get _ hi24] at hc; have hf := hR6.fQ.blk.free i))
          all_goals
            have HS := Lib.hid ((hR6.setQ (k := i) hi24 (clampv (atV f (i : Int) (i : Int)) 1 72057594037927936)).congr HB.out.1 HB.out.2 (by rw [Bool.or_assoc]))
            rw [← HG.out.1, ← HG.out.2] at HS
            clear hR5 hR6 HR kk k5
            go_wp2_with fail
            go_roundw
            case rel => exact ⟨k + 1, by omega, by go_num, HS.out⟩
            case measure => simp [intOf]; omega
    · obtain rfl : k = n := by omega
      clear hlt hk hl
      obtain ⟨e1, e2, _⟩ := rf_same f l k
      rw [e1, e2] at hR
      clear e1 e2
      have HR := Lib.hid (show forgetF f l k = stepF f (fgS f l k) (tailS (fgS f l k)) ∧ (h || forgetH f l k) = (h || fgH f l k || stepH f (fgS f l k) (tailS (fgS f l k))) from ⟨rfl, by unfold forgetH; rw [Bool.or_assoc]⟩)
      generalize (h || fgH f l k) = H at *
      generalize fgS f l k = G at *
      have hlI : ¬ (k : Int) < (k : Int) := by omega
      have hP := hR.P
      have hQ := hR.fQ.blk
      go_wp2_with (first
        | (refine row_load 93 (.tmp 4) ?_ ?_ w.heap.size 300 f 93 ?_ hP _ Try.underlying93 ?_ covSize ?_; rfl; rfl; rfl; rfl)
        | (refine row_load 91 (.tmp 8) ?_ ?_ Q 24 (tailS G) 91 ?_ hQ _ Try.underlying91 ?_ rowDSize ?_; rfl; rfl; rfl; rfl))
      refine (rstep_any p o F 0 f G (tailS G) H _ (hR.s.F.fl fl) hR.fF.blk.lt (by have := hR.fF.lo; omega) hR.fF.blk.ints).mono ?_
      rintro e w5 ⟨rfl, k5⟩
      replace hR := hR.flag hpw k5
      clear k5 hP hQ
      have hR2 := hR.R
      rw [← HR.out.1]
      go_wp2_with (refine row_store 93 (.tmp 6) (.tmp 54) ?_ ?_ (w.heap.size + 1) 300 (forgetF f l k) (fun _ => 0) 93 ?_ ?_ hR2 covSize ?_; rfl; rfl; rfl; rfl)
      exact bodyPost_ret (v := .agg (rowA 300 (forgetF f l k))) (results_row rfl _ _ (w.heap.size + 1) 300 _ _ _ rfl hR2.setRow Try.underlying93 rfl covSize) rfl ⟨rfl, by rw [HR.out.2]; exact hR.s.F.row (Nat.le_succ _) _⟩
end Go.Proofs.Ytfkeljolpcbbkaa
