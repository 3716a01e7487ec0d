/- Package block: states forgotten. -/
import Derived.Test.YtfkeljolpcbbkaaBlkD
namespace Go.Proofs.Ytfkeljolpcbbkaa
open Go.RowKit

set_option maxRecDepth 10000 in
set_option maxHeartbeats 8000000 in
theorem forget_any (p o : Nat) (f : Nat → Int) (pa : Option Addr) (n c : Nat) (l : Nat → Int) (h : Bool) (w : World) (fl : Fl p o h w) (hn : n ≤ 9223372036854775807) (hl : SlP w p pa n l) :
    Calls Try.prog 110 #[.pointer (some ⟨p, o, none⟩), .agg (rowA 300 f), .slice pa n c] w fun e w' => e = .returned (.agg (rowA 300 (forgetF f l n))) ∧ FlW p o (h || forgetH f l n) w w' := by
  have hpw := fl.lt
  go_enter Try.func110, Try.ntmps110
  go_upto_region 1 with (fail)
  rw [zeroCov]
  generalize hW : World.alloc (World.alloc w _) _ = X
  have hs : Fr w p o h [(w.heap.size, 300, f, 93), (w.heap.size + 1, 300, fun _ => 0, 93)] X := by
    subst hW
    refine ⟨((FlW.refl fl).alloc _).alloc _, fun x hx => ?_⟩
    simp only [List.mem_cons, List.not_mem_nil, or_false] at hx
    rcases hx with rfl | rfl
    · exact ⟨Nat.le_refl _, (Blk.made _ _ _ rfl).alloc _⟩
    · exact ⟨Nat.le_succ _, Blk.made _ _ _ (by simp)⟩
  clear hW
  go_wp2_with fail
  refine (one_any _).mono ?_
  rintro e w1 ⟨rfl, hb1⟩
  replace hs := hs.call hb1
  clear hb1
  have hS0 : Blk (w1.alloc (.cells Try.zeroCells182 182)) w1.heap.size (rowA 600 fun _ => 0) 182 := by rw [zeroAnew]; exact Blk.made _ _ _ rfl
  go_upto_region 2 with (first
    | (refine build_row ?_ 182 (.tmp 10) ?_ (.agg (rowA 576 oneG)) ?_ 600 anew0 built_anew ?_; rfl; rfl; rfl)
    | ((with_reducible refine row_store 182 (.tmp 7) (.tmp 11) ?_ ?_ w1.heap.size 600 anew0 (fun _ => 0) 182 ?_ ?_ hS0 anewSize ?_); rfl; rfl; rfl; rfl))
  clear hS0
  rw [zeroAnew]
  have fS := (hs.fresh 600 182).set (r := anew0)
  replace hs := (hs.alloc (.cells (rowA 600 fun _ => 0) 182)).row fS.lo fS.gt (rowA 600 anew0)
  generalize World.setRow _ _ _ = w2 at *
  generalize w1.heap.size = S at *
  replace hs := hs.hit (show h = (h || fgH f l 0) by rw [fgH, Bool.or_false])
  have hA : fgS f l 0 = anew0 := rfl
  rw [← hA] at fS
  clear hA
  go_wp2_with fail
  go_loopw [14] (fun i' wr => ∃ k : Nat, k ≤ n ∧ i' = .int .i64 k ∧ Fr w p o (h || fgH f l k) [(w.heap.size, 300, f, 93), (w.heap.size + 1, 300, fun _ => 0, 93)] wr ∧ Fresh2 w [(w.heap.size, 300, f, 93), (w.heap.size + 1, 300, fun _ => 0, 93)] S 600 (fgS f l k) 182 wr) (fun i' _ => n - (intOf i').toNat)
  case atStart => exact ⟨0, by omega, rfl, hs, fS⟩
  case round =>
    clear hs fS
    obtain ⟨k, hk, rfl, hs, fS⟩ := hrel
    by_cases hlt : k < n
    · obtain ⟨b, ob, rfl, hbp, hbw, hI⟩ := hl (by omega)
      clear hl
      have hltI : (k : Int) < (n : Int) := by omega
      have hk0 : (0 : Int) ≤ (k : Int) := by omega
      have c1 := (hs.F.cell (b := b) (i := ob + k) hbw (.inl hbp)).trans (hI.at_ k hlt)
      have HN := Lib.hid (show fgS f l (k + 1) = bgS (fgS f l k) (l k) (atV f (l k) (l k)) ∧ (h || fgH f l (k + 1)) = (h || fgH f l k || (inN (l k) && (atH f (l k) (l k) || clamph (atV f (l k) (l k)) 1 72057594037927936))) from ⟨rfl, by rw [fgH, Bool.or_assoc]⟩)
      clear hI
      go_upto_region 5 with (fail)
      clear c1
      generalize l k = x at *
      generalize (h || fgH f l k) = g at *
      generalize fgS f l k = s at *
      go_wp2_with fail
      cases hi : inN x
      · refine (bexists_is x false hi _).mono ?_
        rintro e w3 ⟨rfl, rfl⟩
        have HN2 := Lib.hid (show fgS f l (k + 1) = s ∧ (h || fgH f l (k + 1)) = g from ⟨by rw [HN.out.1]; exact bgS_out (by rw [← inN_no]; exact hi), by rw [HN.out.2, hi, Bool.false_and, Bool.or_false]⟩)
        have HS := Lib.hid (And.intro hs fS)
        clear HN hi hs fS
        go_wp2_with fail
        go_roundw
        case rel => exact ⟨k + 1, by omega, by go_num, HS.out.1.hit HN2.out.2.symm, by rw [HN2.out.1]; exact HS.out.2⟩
        case measure => simp [intOf]; omega
      · refine (bexists_is x true hi _).mono ?_
        rintro e w3 ⟨rfl, rfl⟩
        rw [inN_iff] at hi
        obtain ⟨i, rfl⟩ := Int.eq_ofNat_of_zero_le hi.1
        have hi24 : i < 24 := by omega
        have HN2 := Lib.hid (show fgS f l (k + 1) = bgS s (i : Int) (atV f (i : Int) (i : Int)) ∧ (h || fgH f l (k + 1)) = (g || atH f (i : Int) (i : Int) || clamph (atV f (i : Int) (i : Int)) 1 72057594037927936) from ⟨HN.out.1, by rw [HN.out.2, (inN_iff _).2 hi, Bool.true_and, Bool.or_assoc]⟩)
        clear HN hi
        have hP := hs.get (b := w.heap.size) (n := 300) (f := f) (t := 93) (.head _)
        go_wp2_with (refine row_load 93 (.tmp 4) ?_ ?_ w.heap.size 300 f 93 ?_ hP _ Try.underlying93 ?_ covSize ?_; rfl; rfl; rfl; rfl)
        refine (at_any p o f (i : Int) (i : Int) g _ (hs.F.fl fl)).mono ?_
        rintro e w4 ⟨rfl, k4⟩
        replace hs := hs.flag hpw k4
        replace fS := fS.flag hpw k4
        clear k4 hP
        generalize atV f (i : Int) (i : Int) = v at *
        generalize (g || atH f (i : Int) (i : Int)) = g2 at *
        go_wp2_with fail
        refine (begin_any p o S s i v g2 _ (hs.F.fl fl) fS.blk (by have := fS.lo; omega) hi24).mono ?_
        rintro e w5 ⟨rfl, k5⟩
        have hs4 := (hs.row fS.lo fS.gt (rowA 600 (bgS s (i : Int) v))).flag hpw k5
        have fS4 := (fS.set (r := bgS s (i : Int) v)).flag hpw k5
        have HS := Lib.hid (And.intro hs4 fS4)
        clear hs fS hs4 fS4 k5
        go_wp2_with fail
        go_roundw
        case rel => exact ⟨k + 1, by omega, by go_num, HS.out.1.hit HN2.out.2.symm, by rw [HN2.out.1]; exact HS.out.2⟩
        case measure => simp [intOf]; omega
    · obtain rfl : k = n := by omega
      clear hlt hk hl
      have HR := Lib.hid (show forgetF f l k = stepF f (fgS f l k) (tailS (fgS f l k)) ∧ (h || forgetH f l k) = (h || fgH f l k || stepH f (fgS f l k) (tailS (fgS f l k))) from ⟨rfl, by unfold forgetH; rw [Bool.or_assoc]⟩)
      generalize (h || fgH f l k) = g at *
      generalize fgS f l k = s at *
      have hlI : ¬ (k : Int) < (k : Int) := by omega
      have hP := hs.get (b := w.heap.size) (n := 300) (f := f) (t := 93) (.head _)
      have hI1 : Ints wr S 0 576 s := ⟨fun i hi => fS.blk.ints.at_ i (by omega)⟩
      have hI2 : Ints wr S 576 24 (tailS s) := by
        have := fS.blk.ints.part 576 24 (by omega)
        rwa [Nat.zero_add] at this
      go_wp2_with (first
        | (refine row_load 93 (.tmp 4) ?_ ?_ w.heap.size 300 f 93 ?_ hP _ Try.underlying93 ?_ covSize ?_; rfl; rfl; rfl; rfl)
        | (refine mid_load 110 (.tmp 31) ?_ ?_ S 0 576 s ?_ hI1 _ Try.underlying110 ?_ matSize ?_; rfl; rfl; rfl; rfl)
        | (refine mid_load 91 (.tmp 33) ?_ ?_ S 576 24 (tailS s) ?_ hI2 _ Try.underlying91 ?_ rowDSize ?_; rfl; rfl; rfl; rfl))
      refine (step_any p o f s (tailS s) g _ (hs.F.fl fl)).mono ?_
      rintro e w5 ⟨rfl, k5⟩
      replace hs := hs.flag hpw k5
      clear k5 hP hI1 hI2 fS
      have hR := hs.get (b := w.heap.size + 1) (n := 300) (f := fun _ => 0) (t := 93) (.tail _ (.head _))
      rw [← HR.out.1]
      go_wp2_with (refine row_store 93 (.tmp 6) (.tmp 35) ?_ ?_ (w.heap.size + 1) 300 (forgetF f l k) (fun _ => 0) 93 ?_ ?_ hR covSize ?_; rfl; rfl; rfl; rfl)
      exact bodyPost_ret (v := .agg (rowA 300 (forgetF f l k))) (results_row rfl _ _ (w.heap.size + 1) 300 _ _ _ rfl hR.setRow Try.underlying93 rfl covSize) rfl ⟨rfl, by rw [HR.out.2]; exact hs.F.row (Nat.le_succ _) _⟩
end Go.Proofs.Ytfkeljolpcbbkaa
