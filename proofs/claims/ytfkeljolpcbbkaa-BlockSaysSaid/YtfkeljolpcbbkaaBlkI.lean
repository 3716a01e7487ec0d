/- The document's own: variances that grow. -/
import Derived.Test.YtfkeljolpcbbkaaBlkH
namespace Go.Proofs.Ytfkeljolpcbbkaa
open Go.RowKit

set_option maxRecDepth 10000 in
set_option maxHeartbeats 8000000 in
theorem rgrow_core (p o : Nat) (f : Nat → Int) (m : Int) (pa : Option Addr) (n c : Nat) (l : Nat → Int) (h : Bool) (w : World) (fl : Fl p o h w) (V : Nat → Int) (eq2 : ∀ k, k < 24 → rgQ m l n 24 k = V k) (hm : -900 ≤ m ∧ m ≤ 900) (hn : n ≤ 900) (hl : SlP w p pa n l) :
    Calls Try.prog 109 #[.pointer (some ⟨p, o, none⟩), .agg (rowA 300 f), .int .i64 m, .slice pa n c] w fun e w' => e = .returned (.agg (rowA 300 (stepF f oneG V))) ∧ FlW p o (h || stepH f oneG V) w w' := by
  have hpw := fl.lt
  have HE := Lib.hid eq2
  clear eq2
  go_enter Try.func109, Try.ntmps109
  go_upto_region 1 with (fail)
  rw [zeroCov]
  generalize hW : World.alloc (World.alloc w _) _ = X
  have hs : Fr w p o h (LR w f) X := by
    subst hW
    refine ⟨((FlW.refl fl).alloc _).alloc _, fun x hx => ?_⟩
    simp only [LR, List.mem_cons, List.not_mem_nil, or_false] at hx
    rcases hx with rfl | rfl
    · exact ⟨Nat.le_refl _, (Blk.made _ _ _ rfl).alloc _⟩
    · exact ⟨Nat.le_succ _, Blk.made _ _ _ (by simp)⟩
  clear hW
  go_wp2_with fail
  refine (runit_any _).mono ?_
  rintro e w1 ⟨rfl, hb1⟩
  replace hs := hs.call hb1
  clear hb1
  have hS0 : Blk (w1.alloc (.cells Try.zeroCells109 109)) w1.heap.size (rowA 576 fun _ => 0) 109 := by rw [zeroG]; exact Blk.made _ _ _ rfl
  go_upto_region 2 with ((with_reducible refine row_store 109 (.tmp 9) (.tmp 13) ?_ ?_ w1.heap.size 576 oneG (fun _ => 0) 109 ?_ ?_ hS0 gSize ?_); rfl; rfl; rfl; rfl)
  clear hS0
  rw [zeroG]
  have fF := (hs.fresh 576 109).set (r := oneG)
  replace hs := (hs.alloc (.cells (rowA 576 fun _ => 0) 109)).row fF.lo fF.gt (rowA 576 oneG)
  generalize World.setRow _ _ _ = w2 at *
  generalize w1.heap.size = F at *
  have fQ := (hs.fresh 24 91).set (r := fun _ => 0)
  have hne := Nat.ne_of_lt fF.blk.lt
  have hQ0 : ∀ z : Array Value, z = rowA 24 (fun _ => 0) → Blk (w2.alloc (.cells z 91)) w2.heap.size (rowA 24 fun _ => 0) 91 := by rintro z rfl; exact (hs.fresh 24 91).blk
  have hR : Rr w p o h f F w2.heap.size oneG (fun _ => 0) ((w2.alloc (.cells (rowA 24 fun _ => 0) 91)).setRow w2.heap.size (rowA 24 fun _ => 0)) := ⟨(hs.alloc _).row fQ.lo fQ.gt _, (fF.alloc _).otherRow hne _, fQ, hne⟩
  clear hs fF fQ
  go_upto_region 3 with (first
    | (refine build_none ?_ 91 ?_ 24 (fun _ => 0) built24 ?_; rfl; rfl)
    | ((with_reducible refine row_store 91 (.tmp 10) (.tmp 14) ?_ ?_ w2.heap.size 24 (fun _ => 0) (fun _ => 0) 91 ?_ ?_ (hQ0 _ zero24) rowDSize ?_); rfl; rfl; rfl; rfl))
  rw [zero24]
  clear hQ0 hne
  generalize World.setRow _ _ _ = w3 at *
  generalize w2.heap.size = Q at *
  replace hR := hR.as (q2 := rgQ m l n 0) rfl rfl rfl
  go_wp2_with fail
  go_loopw [11] (fun i' wr => ∃ t : Nat, t ≤ 24 ∧ i' = .int .i64 t ∧ Rr w p o h f F Q oneG (rgQ m l n t) wr) (fun i' _ => 24 - (intOf i').toNat)
  case atStart => exact ⟨0, by omega, rfl, hR⟩
  case round =>
    clear hR
    obtain ⟨t, ht, rfl, hR⟩ := hrel
    by_cases hlt : t < 24
    · have hltI : (t : Int) < 24 := by omega
      have ht0 : (0 : Int) ≤ (t : Int) := by omega
      have hx := wrap64_in ((t : Int) - m) (by omega) (by omega)
      have hc1 : (-1000 : Int) ≤ m := by omega
      have HG := Lib.hid (show rgQ m l n (t + 1) = bif toldB m n t then upd (rgQ m l n t) t (l ((t : Int) - m).toNat) else rgQ m l n t from rfl)
      generalize rgQ m l n t = q at *
      go_upto_region 7 with (fail)
      clear hx
      by_cases hc : m ≤ 24 ∧ m ≤ (t : Int) ∧ (t : Int) < m + n
      · have HT : toldB m n t = true := toldB_iff.2 ⟨hc1, hc⟩
        rw [HT] at HG
        obtain ⟨y, hy⟩ : ∃ y : Nat, (t : Int) - m = (y : Int) := ⟨((t : Int) - m).toNat, by omega⟩
        rw [hy] at HG ⊢
        have hyn : y < n := by omega
        have hynI : (y : Int) < (n : Int) := by omega
        have hy0 : (0 : Int) ≤ (y : Int) := by omega
        have hm24 : m ≤ 24 := hc.1
        obtain ⟨b, ob, rfl, hbp, hbw, hI⟩ := hl (by omega)
        rw [Int.toNat_natCast] at HG
        have HG2 := Lib.hid (show rgQ m l n (t + 1) = upd q t (l y) from HG.out)
        clear HG HT hc hy hl
        have c1 := (hR.s.F.cell (b := b) (i := ob + y) hbw (.inl hbp)).trans (hI.at_ y hyn)
        have hc := hR.fQ.blk.cell t
        rw [rowA_get _ hlt] at hc
        have hf := hR.fQ.blk.free t
        have HS := Lib.hid (hR.setQ (k := t) hlt (l y))
        clear hR hI
        go_wp2_with fail
        go_roundw
        case rel => exact ⟨t + 1, by omega, by go_num, HS.out.as rfl HG2.out.symm rfl⟩
        case measure => simp [intOf]; omega
      · rw [told_no (fun x => hc x.2)] at HG
        have HG2 := Lib.hid (show q = rgQ m l n (t + 1) from HG.out.symm)
        clear HG
        have HS := Lib.hid hR
        clear hR hl
        by_cases h24 : m ≤ 24
        · by_cases hx0 : (0 : Int) ≤ (t : Int) - m
          · have hxn : ¬ (t : Int) - m < (n : Int) := by omega
            generalize (t : Int) - m = x at *
            clear hc
            go_wp2_with fail
            go_roundw
            case rel => exact ⟨t + 1, by omega, by go_num, HS.out.as rfl HG2.out rfl⟩
            case measure => simp [intOf]; omega
          · generalize (t : Int) - m = x at *
            clear hc
            go_wp2_with fail
            go_roundw
            case rel => exact ⟨t + 1, by omega, by go_num, HS.out.as rfl HG2.out rfl⟩
            case measure => simp [intOf]; omega
        · generalize (t : Int) - m = x at *
          clear hc
          go_wp2_with fail
          go_roundw
          case rel => exact ⟨t + 1, by omega, by go_num, HS.out.as rfl HG2.out rfl⟩
          case measure => simp [intOf]; omega
    · obtain rfl : t = 24 := by omega
      clear hlt ht hl
      have hlI : ¬ ((24 : Nat) : Int) < 24 := by omega
      replace hR := hR.congr (fun _ _ => rfl) HE.out rfl
      clear HE
      have hP := hR.P
      have hQ := hR.fQ.blk
      go_wp2_with (first
        | (refine row_load 93 (.tmp 5) ?_ ?_ w.heap.size 300 f 93 ?_ hP _ Try.underlying93 ?_ covSize ?_; rfl; rfl; rfl; rfl)
        | (refine row_load 91 (.tmp 10) ?_ ?_ Q 24 V 91 ?_ hQ _ Try.underlying91 ?_ rowDSize ?_; rfl; rfl; rfl; rfl))
      refine (rstep_any p o F 0 f oneG V h _ (hR.s.F.fl fl) hR.fF.blk.lt (by have := hR.fF.lo; omega) hR.fF.blk.ints).mono ?_
      rintro e w5 ⟨rfl, k5⟩
      replace hR := hR.flag hpw k5
      clear k5 hP hQ
      have hR2 := hR.R
      go_wp2_with (refine row_store 93 (.tmp 8) (.tmp 47) ?_ ?_ (w.heap.size + 1) 300 (stepF f oneG V) (fun _ => 0) 93 ?_ ?_ hR2 covSize ?_; rfl; rfl; rfl; rfl)
      exact bodyPost_ret (v := .agg (rowA 300 (stepF f oneG V))) (results_row rfl _ _ (w.heap.size + 1) 300 _ _ _ rfl hR2.setRow Try.underlying93 rfl covSize) rfl ⟨rfl, hR.s.F.row (Nat.le_succ _) _⟩
theorem rgrow_any (p o : Nat) (f : Nat → Int) (m : Int) (pa : Option Addr) (n c : Nat) (l : Nat → Int) (h : Bool) (w : World) (fl : Fl p o h w) (hm : -900 ≤ m ∧ m ≤ 900) (hn : n ≤ 900) (hl : SlP w p pa n l) :
    Calls Try.prog 109 #[.pointer (some ⟨p, o, none⟩), .agg (rowA 300 f), .int .i64 m, .slice pa n c] w fun e w' => e = .returned (.agg (rowA 300 (growF f m l n))) ∧ FlW p o (h || growH f m l n) w w' :=
  rgrow_core p o f m pa n c l h w fl (grQ m l n) (rg_same hm l hn) hm hn hl
end Go.Proofs.Ytfkeljolpcbbkaa
