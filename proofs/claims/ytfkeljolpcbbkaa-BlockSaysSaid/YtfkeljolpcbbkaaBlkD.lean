/- Package block: states given new variances. -/
import Derived.Test.YtfkeljolpcbbkaaBlkB
import Derived.Test.YtfkeljolpcbbkaaKP
namespace Go.Proofs.Ytfkeljolpcbbkaa
open Go.RowKit

theorem build_row {P : Program} {ops : Array Oper} {rest : List Oper} {o : Oper} {a : Act} {w : World} {Q : Exit → Act → World → Prop} (hgd : o.guard = none) (t : TypeId) (x : Operand) (ho : o.op = .build t #[(0, x)]) (v : Value) (hx : a.eval x = v) (n : Nat) (g : Nat → Int) (hb : P.built t [(0, v)] = some (rowA n g))
    (h : wpList P ops Q rest (a.put o.dst (.agg (rowA n g))) w) : wpList P ops Q (o :: rest) a w := by
  refine wpList_build hgd t _ ho ?_ ?_
  · simp [hx, hb]
  · simpa [hx, hb] using h
def SlP (w : World) (p : Nat) (pa : Option Addr) (n : Nat) (l : Nat → Int) : Prop := 0 < n → ∃ b ob, pa = some ⟨b, ob, none⟩ ∧ b ≠ p ∧ b < w.heap.size ∧ Ints w b ob n l
set_option maxRecDepth 10000 in
set_option maxHeartbeats 8000000 in
theorem reset_any (p o : Nat) (f : Nat → Int) (m : Int) (pa : Option Addr) (n c : Nat) (l : Nat → Int) (h : Bool) (w : World) (fl : Fl p o h w) (hn : n ≤ 9223372036854775807) (hl : SlP w p pa n l) :
    Calls Try.prog 106 #[.pointer (some ⟨p, o, none⟩), .agg (rowA 300 f), .int .i64 m, .slice pa n c] w fun e w' => e = .returned (.agg (rowA 300 (resetF f m l n))) ∧ FlW p o (h || resetH f m l n) w w' := by
  have hpw := fl.lt
  go_enter Try.func106, Try.ntmps106
  go_upto_region 1 with (fail)
  rw [zeroCov]
  generalize hW : World.alloc (World.alloc w _) _ = X
  have hs : Fr w p o h [(w.heap.size, 300, f, 93), (w.heap.size + 1, 300, fun _ => 0, 93)] X := by
    subst hW
    refine ⟨((FlW.refl fl).alloc _).alloc _, fun x hx => ?_⟩
    simp only [List.mem_cons, List.not_mem_nil, or_false] at hx
    rcases hx with rfl | rfl
    · exact ⟨Nat.le_refl _, (Blk.made _ _ _ rfl).alloc _⟩
    · exact ⟨Nat.le_succ _, Blk.made _ _ _ (by simp)⟩
  clear hW
  go_wp2_with fail
  refine (one_any _).mono ?_
  rintro e w1 ⟨rfl, hb1⟩
  replace hs := hs.call hb1
  clear hb1
  have hS0 : Blk (w1.alloc (.cells Try.zeroCells182 182)) w1.heap.size (rowA 600 fun _ => 0) 182 := by rw [zeroAnew]; exact Blk.made _ _ _ rfl
  go_upto_region 2 with (first
    | (refine build_row ?_ 182 (.tmp 13) ?_ (.agg (rowA 576 oneG)) ?_ 600 anew0 built_anew ?_; rfl; rfl; rfl)
    | ((with_reducible refine row_store 182 (.tmp 9) (.tmp 14) ?_ ?_ w1.heap.size 600 anew0 (fun _ => 0) 182 ?_ ?_ hS0 anewSize ?_); rfl; rfl; rfl; rfl))
  clear hS0
  rw [zeroAnew]
  have fS := (hs.fresh 600 182).set (r := anew0)
  replace hs := (hs.alloc (.cells (rowA 600 fun _ => 0) 182)).row fS.lo fS.gt (rowA 600 anew0)
  generalize World.setRow _ _ _ = w2 at *
  generalize w1.heap.size = S at *
  replace hs := hs.hit (show h = (h || rsH m l 0) by rw [rsH, Bool.or_false])
  have hA : rsS m l 0 = anew0 := rfl
  rw [← hA] at fS
  clear hA
  go_wp2_with fail
  go_loopw [17] (fun i' wr => ∃ k : Nat, k ≤ n ∧ i' = .int .i64 k ∧ Fr w p o (h || rsH m l k) [(w.heap.size, 300, f, 93), (w.heap.size + 1, 300, fun _ => 0, 93)] wr ∧ Fresh2 w [(w.heap.size, 300, f, 93), (w.heap.size + 1, 300, fun _ => 0, 93)] S 600 (rsS m l k) 182 wr) (fun i' _ => n - (intOf i').toNat)
  case atStart => exact ⟨0, by omega, rfl, hs, fS⟩
  case round =>
    clear hs fS
    obtain ⟨k, hk, rfl, hs, fS⟩ := hrel
    by_cases hlt : k < n
    · obtain ⟨b, ob, rfl, hbp, hbw, hI⟩ := hl (by omega)
      clear hl
      have hltI : (k : Int) < (n : Int) := by omega
      have hk0 : (0 : Int) ≤ (k : Int) := by omega
      have c1 := (hs.F.cell (b := b) (i := ob + k) hbw (.inl hbp)).trans (hI.at_ k hlt)
      have HN := Lib.hid (show rsS m l (k + 1) = bgS (rsS m l k) (wrap64 (m + (k : Int))) (l k) ∧ (h || rsH m l (k + 1)) = (h || rsH m l k || bgH (wrap64 (m + (k : Int))) (l k)) from ⟨rfl, by rw [rsH, Bool.or_assoc]⟩)
      clear hI
      go_upto_region 6 with (fail)
      clear c1
      generalize wrap64 (m + (k : Int)) = x at *
      generalize (h || rsH m l k) = g at *
      generalize rsS m l k = s at *
      go_wp2_with fail
      cases hi : inN x
      · refine (bexists_is x false hi _).mono ?_
        rintro e w3 ⟨rfl, rfl⟩
        have HN2 := Lib.hid (show rsS m l (k + 1) = s ∧ (h || rsH m l (k + 1)) = g from ⟨by rw [HN.out.1]; exact bgS_out (by rw [← inN_no]; exact hi), by rw [HN.out.2]; unfold bgH; rw [hi, Bool.false_and, Bool.or_false]⟩)
        have HS := Lib.hid (And.intro hs fS)
        clear HN hi hs fS
        go_wp2_with fail
        go_roundw
        case rel => exact ⟨k + 1, by omega, by go_num, HS.out.1.hit HN2.out.2.symm, by rw [HN2.out.1]; exact HS.out.2⟩
        case measure => simp [intOf]; omega
      · refine (bexists_is x true hi _).mono ?_
        rintro e w3 ⟨rfl, rfl⟩
        rw [inN_iff] at hi
        obtain ⟨i, rfl⟩ := Int.eq_ofNat_of_zero_le hi.1
        have hi24 : i < 24 := by omega
        have HN2 := Lib.hid (show rsS m l (k + 1) = bgS s (i : Int) (l k) ∧ (h || rsH m l (k + 1)) = (g || clamph (l k) 1 72057594037927936) from ⟨HN.out.1, by rw [HN.out.2]; unfold bgH; rw [(inN_iff _).2 hi, Bool.true_and]⟩)
        clear HN hi
        go_wp2_with fail
        refine (begin_any p o S s i (l k) g _ (hs.F.fl fl) fS.blk (by have := fS.lo; omega) hi24).mono ?_
        rintro e w4 ⟨rfl, k4⟩
        have hs4 := (hs.row fS.lo fS.gt (rowA 600 (bgS s (i : Int) (l k)))).flag hpw k4
        have fS4 := (fS.set (r := bgS s (i : Int) (l k))).flag hpw k4
        have HS := Lib.hid (And.intro hs4 fS4)
        clear hs fS hs4 fS4 k4
        go_wp2_with fail
        go_roundw
        case rel => exact ⟨k + 1, by omega, by go_num, HS.out.1.hit HN2.out.2.symm, by rw [HN2.out.1]; exact HS.out.2⟩
        case measure => simp [intOf]; omega
    · obtain rfl : k = n := by omega
      clear hlt hk hl
      have HR := Lib.hid (show resetF f m l k = stepF f (rsS m l k) (tailS (rsS m l k)) ∧ (h || resetH f m l k) = (h || rsH m l k || stepH f (rsS m l k) (tailS (rsS m l k))) from ⟨rfl, by unfold resetH; rw [Bool.or_assoc]⟩)
      generalize (h || rsH m l k) = g at *
      generalize rsS m l k = s at *
      have hlI : ¬ (k : Int) < (k : Int) := by omega
      have hP := hs.get (b := w.heap.size) (n := 300) (f := f) (t := 93) (.head _)
      have hI1 : Ints wr S 0 576 s := ⟨fun i hi => fS.blk.ints.at_ i (by omega)⟩
      have hI2 : Ints wr S 576 24 (tailS s) := by
        have := fS.blk.ints.part 576 24 (by omega)
        rwa [Nat.zero_add] at this
      go_wp2_with (first
        | (refine row_load 93 (.tmp 5) ?_ ?_ w.heap.size 300 f 93 ?_ hP _ Try.underlying93 ?_ covSize ?_; rfl; rfl; rfl; rfl)
        | (refine mid_load 110 (.tmp 34) ?_ ?_ S 0 576 s ?_ hI1 _ Try.underlying110 ?_ matSize ?_; rfl; rfl; rfl; rfl)
        | (refine mid_load 91 (.tmp 36) ?_ ?_ S 576 24 (tailS s) ?_ hI2 _ Try.underlying91 ?_ rowDSize ?_; rfl; rfl; rfl; rfl))
      refine (step_any p o f s (tailS s) g _ (hs.F.fl fl)).mono ?_
      rintro e w5 ⟨rfl, k5⟩
      replace hs := hs.flag hpw k5
      clear k5 hP hI1 hI2 fS
      have hR := hs.get (b := w.heap.size + 1) (n := 300) (f := fun _ => 0) (t := 93) (.tail _ (.head _))
      rw [← HR.out.1]
      go_wp2_with (refine row_store 93 (.tmp 8) (.tmp 38) ?_ ?_ (w.heap.size + 1) 300 (resetF f m l k) (fun _ => 0) 93 ?_ ?_ hR covSize ?_; rfl; rfl; rfl; rfl)
      exact bodyPost_ret (v := .agg (rowA 300 (resetF f m l k))) (results_row rfl _ _ (w.heap.size + 1) 300 _ _ _ rfl hR.setRow Try.underlying93 rfl covSize) rfl ⟨rfl, by rw [HR.out.2]; exact hs.F.row (Nat.le_succ _) _⟩
end Go.Proofs.Ytfkeljolpcbbkaa
