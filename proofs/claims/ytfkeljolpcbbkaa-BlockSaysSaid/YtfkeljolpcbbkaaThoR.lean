/- The document's own step of a covariance. -/
import Derived.Test.YtfkeljolpcbbkaaTHS
import Derived.Test.YtfkeljolpcbbkaaThoQ
import Derived.Test.YtfkeljolpcbbkaaQQB
namespace Go.Proofs.Ytfkeljolpcbbkaa
open Go.RowKit

theorem qd_quov (p o : Nat) (a b : Int) (h : Bool) (w : World) (f : Fl p o h w) :
  Calls Try.prog 142 #[.pointer (some ⟨p, o, none⟩), .int .i64 a, .int .i64 b] w fun e w' => e = .returned (.int .i64 (quov a b)) ∧ FlW p o (h || quoh a b) w w' := by
 refine (qd p o a b h w f).mono ?_
 rintro e w' ⟨rfl, k⟩
 exact ⟨rfl, flag_is (by simp [quoh, Bool.or_assoc]) k⟩
theorem qsub_subv (p o : Nat) (a b : Int) (h : Bool) (w : World) (f : Fl p o h w) :
  Calls Try.prog 145 #[.pointer (some ⟨p, o, none⟩), .int .i64 a, .int .i64 b] w fun e w' => e = .returned (.int .i64 (subv a b)) ∧ FlW p o (h || subh a b) w w' := by
 refine (qsub p o a b h w f).mono ?_
 rintro e w' ⟨rfl, k⟩
 exact ⟨rfl, flag_is (by simp [subh, Bool.or_assoc]) k⟩
structure Base (w0 : World) (C : Nat) (cp nq cw : Nat → Int) (w : World) : Prop where
 P : Blk w w0.heap.size (rowA 300 cp) 93
 Q : Blk w (w0.heap.size + 1) (rowA 24 nq) 91
 R : Blk w (w0.heap.size + 2) (rowA 300 fun _ => 0) 93
 K : Blk w C (rowA 576 cw) 109
 gt : w0.heap.size + 2 < C
section
variable {w0 : World} {p o C : Nat} {cp nq cw : Nat → Int} {h2 : Bool} {w w' : World}
theorem Base.flag (s : Base w0 C cp nq cw w) (hp : p < w0.heap.size) (k : FlW p o h2 w w') : Base w0 C cp nq cw w' := ⟨s.P.flag (by omega) k, s.Q.flag (by omega) k, s.R.flag (by omega) k, s.K.flag (by have := s.gt; omega) k, s.gt⟩
theorem Base.drew (s : Base w0 C cp nq cw w) : Base w0 C cp nq cw w.drew := ⟨s.P.drew, s.Q.drew, s.R.drew, s.K.drew, s.gt⟩
theorem Base.alloc (s : Base w0 C cp nq cw w) (x : Obj) : Base w0 C cp nq cw (w.alloc x) := ⟨s.P.alloc _, s.Q.alloc _, s.R.alloc _, s.K.alloc _, s.gt⟩
theorem Base.other (s : Base w0 C cp nq cw w) {b : Nat} (hb : C < b) (i : Nat) (v : Value) : Base w0 C cp nq cw (w.setCell ⟨b, i, none⟩ v) := ⟨s.P.other (by have := s.gt; omega) _, s.Q.other (by have := s.gt; omega) _, s.R.other (by have := s.gt; omega) _, s.K.other (by omega) _, s.gt⟩
theorem Base.row (s : Base w0 C cp nq cw w) {b : Nat} (hb : C < b) (d : Array Value) : Base w0 C cp nq cw (w.setRow b d) := ⟨s.P.otherRow (by have := s.gt; omega), s.Q.otherRow (by have := s.gt; omega), s.R.otherRow (by have := s.gt; omega), s.K.otherRow (by omega), s.gt⟩
end
theorem zeroRowsR : Try.zeroCells199 = rowA 1152 (fun _ => 0) := by rw [← zeroRows]; kernel_rfl
theorem lineSizeR : (Try.prog.info? 166).map (·.size) = some 48 := by kernel_rfl
theorem zeroCols : Try.zeroCells109 = rowA 576 (fun _ => 0) := by kernel_rfl
set_option maxRecDepth 100000 in
set_option maxHeartbeats 16000000 in
theorem rstep_any (p o b bo : Nat) (f g q : Nat → Int) (h : Bool) (w : World) (fl : Fl p o h w) (hb : b < w.heap.size) (hbp : b ≠ p) (hx : Ints w b bo 576 g) :
  Calls Try.prog 177 #[.pointer (some ⟨p, o, none⟩), .agg (rowA 300 f), .pointer (some ⟨b, bo, none⟩), .agg (rowA 24 q)] w fun e w' => e = .returned (.agg (rowA 300 (stepF f g q))) ∧ FlW p o (h || stepH f g q) w w' := by
 have hpw := fl.lt
 go_enter Try.func177, Try.ntmps177
 go_upto_region 1 with (fail)
 rw [zeroCov]
 generalize hW : World.alloc (World.alloc (World.alloc w _) _) _ = X
 have hF : FlW p o h w X := by subst hW; exact (((FlW.refl fl).alloc _).alloc _).alloc _
 have hP : Blk X w.heap.size (rowA 300 f) 93 := by subst hW; exact ((Blk.made _ _ _ rfl).alloc _).alloc _
 have hQ : Blk X (w.heap.size + 1) (rowA 24 q) 91 := by subst hW; exact (Blk.made _ _ _ (by simp)).alloc _
 have hR : Blk X (w.heap.size + 2) (rowA 300 fun _ => 0) 93 := by subst hW; exact Blk.made _ _ _ (by simp)
 clear hW
 go_wp2_with ((with_reducible refine row_load 93 (.tmp 5) ?_ ?_ w.heap.size 300 f 93 ?_ hP _ Try.underlying93 ?_ covSize ?_); rfl; rfl; rfl; rfl)
 refine (rcond_any p o f _ _ (hF.fl fl)).mono ?_
 rintro e w1 ⟨rfl, k1⟩
 have hF1 := hF.trans k1
 have hP1 := hP.flag (by omega) k1
 have hQ1 := hQ.flag (by omega) k1
 have hR1 := hR.flag (by omega) k1
 clear hF hP hQ hR k1
 go_wp2_with ((with_reducible refine row_store 93 (.tmp 5) (.tmp 29) ?_ ?_ w.heap.size 300 (condF f) f 93 ?_ ?_ hP1 covSize ?_); rfl; rfl; rfl; rfl)
 have hP2 := hP1.setRow (d := rowA 300 (condF f))
 have hQ2 : Blk (w1.setRow w.heap.size (rowA 300 (condF f))) (w.heap.size + 1) (rowA 24 (noiP q 0)) 91 := by rw [noiP_zero]; exact hQ1.otherRow (by omega)
 have hR2 := hR1.otherRow (b := w.heap.size) (d := rowA 300 (condF f)) (by omega)
 have hF2 : FlW p o (h || condH f || anyN (fun k => clamph (q k) 0 72057594037927936) 0) w (w1.setRow w.heap.size (rowA 300 (condF f))) := flag_is (by show _ = (_ || false); rw [Bool.or_false]) (hF1.row (Nat.le_refl _) _)
 clear hF1 hP1 hQ1 hR1
 generalize World.setRow _ _ _ = w2 at *
 go_loopw [9] (fun i' wr => ∃ k : Nat, k ≤ 24 ∧ i' = .int .i64 k ∧ FlW p o (h || condH f || anyN (fun k => clamph (q k) 0 72057594037927936) k) w wr ∧ Blk wr w.heap.size (rowA 300 (condF f)) 93 ∧ Blk wr (w.heap.size + 1) (rowA 24 (noiP q k)) 91 ∧ Blk wr (w.heap.size + 2) (rowA 300 fun _ => 0) 93) (fun i' _ => 24 - (intOf i').toNat)
 case atStart => exact ⟨0, by omega, rfl, hF2, hP2, hQ2, hR2⟩
 case round =>
  clear hF2 hP2 hQ2 hR2
  obtain ⟨k, hk, rfl, hF, hP, hQ, hR⟩ := hrel
  have fr := (hF.fl fl).drew
  by_cases hlt : k < 24
  ·have hltI : (k : Int) < 24 := by omega
   have hk0 : (0 : Int) ≤ (k : Int) := by omega
   have c1 := hQ.cell k
   rw [rowA_get _ hlt, noiP_self] at c1
   have HN := Lib.hid (noiP_next q k)
   have HA := Lib.hid (show (h || condH f || anyN (fun k => clamph (q k) 0 72057594037927936) (k + 1)) = (h || condH f || anyN (fun k => clamph (q k) 0 72057594037927936) k || clamph (q k) 0 72057594037927936) by simp only [anyN, Bool.or_assoc])
   have H := Lib.hid (And.intro hF (And.intro hP (And.intro hQ hR)))
   clear hF hP hQ hR
   go_wp2_with fail
   go_region_with (first
    | (go_at_call 139; refine (qclamp p o (q k) 0 72057594037927936 _ _ fr).mono ?_; rintro e w4 ⟨rfl, kk⟩; have hQ4 := H.out.2.2.1.drew.flag (by omega) kk; have hc := hQ4.cell k; rw [rowA_get _ hlt] at hc; have hf := hQ4.free k))
   all_goals
    obtain ⟨hF, hP, hQ, hR⟩ := H.out
    have hF5 := flag_is HA.out.symm ((hF.drew.trans kk).other (b := w.heap.size + 1) (i := k) (by omega) (.int .i64 (clampv (q k) 0 72057594037927936)))
    have hP5 := (hP.drew.flag (by omega) kk).other (b := w.heap.size + 1) (i := k) (by omega) (.int .i64 (clampv (q k) 0 72057594037927936))
    have hR5 := (hR.drew.flag (by omega) kk).other (b := w.heap.size + 1) (i := k) (by omega) (.int .i64 (clampv (q k) 0 72057594037927936))
    have hQ5 := hQ4.setI (k := k) hlt (clampv (q k) 0 72057594037927936)
    rw [HN.out] at hQ5
    have H5 := Lib.hid (And.intro hF5 (And.intro hP5 (And.intro hQ5 hR5)))
    clear hF5 hP5 hQ5 hR5 hF hP hQ hR hQ4 H kk
    go_wp2_with fail
    go_roundw
    case rel => exact ⟨k + 1, by omega, by go_num, H5.out.1, H5.out.2.1, H5.out.2.2.1, H5.out.2.2.2⟩
    case measure => simp only [intOf]; omega
  ·obtain rfl : k = 24 := by omega
   clear hlt hk fr
   go_wp2_with fail
   rw [zeroCols]
   generalize hX : World.alloc wr _ = X1
   have nC : w.heap.size + 2 < wr.heap.size := hR.lt
   have hC : Blk X1 wr.heap.size (rowA 576 (colP (condF f) 0 0)) 109 := by subst hX; rw [colP_zero]; exact Blk.made _ _ _ rfl
   have hF3 := hF.alloc (.cells (rowA 576 fun _ => 0) 109)
   have hP3 := hP.alloc (.cells (rowA 576 fun _ => 0) 109)
   have hQ3 := hQ.alloc (.cells (rowA 576 fun _ => 0) 109)
   have hR3 := hR.alloc (.cells (rowA 576 fun _ => 0) 109)
   rw [hX] at hF3 hP3 hQ3 hR3
   clear hF hP hQ hR hX
   generalize wr.heap.size = C at *
   have HS := Lib.hid (show stepF f g q = stO (rowW (condF f) (sat576 g) fun k => k + 1) (wei (condF f) q) 24 from rfl)
   have HH := Lib.hid (show (h || stepH f g q) = (h || condH f || anyN (fun k => clamph (q k) 0 72057594037927936) 24 || anyN (rowsHQ f g) 24 || stH (rowW (condF f) (sat576 g) fun k => k + 1) (wei (condF f) q) 24) by
    rw [rowsHQ_eq]; unfold stepH; simp only [Bool.or_assoc])
   generalize (h || condH f || anyN (fun k => clamph (q k) 0 72057594037927936) 24) = h0 at *
   go_loopw [11] (fun k' wr => ∃ k : Nat, k ≤ 24 ∧ k' = .int .i64 k ∧ FlW p o h0 w wr ∧ Blk wr w.heap.size (rowA 300 (condF f)) 93 ∧ Blk wr (w.heap.size + 1) (rowA 24 (noiP q 24)) 91 ∧ Blk wr (w.heap.size + 2) (rowA 300 fun _ => 0) 93 ∧ Blk wr C (rowA 576 (colP (condF f) k 0)) 109) (fun k' _ => 24 - (intOf k').toNat)
   case atStart => exact ⟨0, by omega, rfl, hF3, hP3, hQ3, hR3, hC⟩
   case round =>
    clear hF3 hP3 hQ3 hR3 hC
    obtain ⟨k, hk, rfl, hF, hP, hQ, hR, hC⟩ := hrel
    by_cases hlt : k < 24
    ·have hltI : (k : Int) < 24 := by omega
     have hk0 : (0 : Int) ≤ (k : Int) := by omega
     go_wp2_with fail
     go_loopw [12] (fun i' wr => ∃ i : Nat, i ≤ k + 1 ∧ i' = .int .i64 i ∧ FlW p o h0 w wr ∧ Blk wr w.heap.size (rowA 300 (condF f)) 93 ∧ Blk wr (w.heap.size + 1) (rowA 24 (noiP q 24)) 91 ∧ Blk wr (w.heap.size + 2) (rowA 300 fun _ => 0) 93 ∧ Blk wr C (rowA 576 (colP (condF f) k i)) 109) (fun i' _ => k + 1 - (intOf i').toNat)
     case atStart => exact ⟨0, by omega, rfl, hF, hP, hQ, hR, hC⟩
     case round =>
      clear hF hP hQ hR hC
      obtain ⟨i, hi, rfl, hF, hP, hQ, hR, hC⟩ := hrel
      by_cases hle : i ≤ k
      ·have hleI : (i : Int) ≤ (k : Int) := by omega
       have hi0 : (0 : Int) ≤ (i : Int) := by omega
       have hi24 : (i : Int) < 24 := by omega
       have HN := Lib.hid (colP_next (condF f) hle hlt)
       have H := Lib.hid (And.intro hF (And.intro hP (And.intro hQ (And.intro hR hC))))
       clear hF hP hQ hR hC
       go_wp2_with fail
       go_region_with (first
        | (go_at_call 86; refine (ru_any w.heap.size 0 (condF f) i k _ H.out.2.1.drew.ints).mono ?_; rintro e w4 ⟨rfl, b4⟩; have hC4 := H.out.2.2.2.2.drew.call b4; have hc := hC4.cell (k * 24 + i); rw [rowA_get _ (by omega)] at hc; have hf := hC4.free (k * 24 + i)))
       all_goals
        obtain ⟨hF, hP, hQ, hR, hC⟩ := H.out
        have hF5 := (hF.drew.then b4).other (b := C) (i := k * 24 + i) (by omega) (.int .i64 (uF (condF f) (i : Int) (k : Int)))
        have hP5 := (hP.drew.call b4).other (b := C) (i := k * 24 + i) (by omega) (.int .i64 (uF (condF f) (i : Int) (k : Int)))
        have hQ5 := (hQ.drew.call b4).other (b := C) (i := k * 24 + i) (by omega) (.int .i64 (uF (condF f) (i : Int) (k : Int)))
        have hR5 := (hR.drew.call b4).other (b := C) (i := k * 24 + i) (by omega) (.int .i64 (uF (condF f) (i : Int) (k : Int)))
        have hC5 := hC4.setI (k := k * 24 + i) (by omega) (uF (condF f) (i : Int) (k : Int))
        rw [HN.out] at hC5
        have H5 := Lib.hid (And.intro hF5 (And.intro hP5 (And.intro hQ5 (And.intro hR5 hC5))))
        clear hF5 hP5 hQ5 hR5 hC5 hF hP hQ hR hC hC4 H b4
        go_wp2_with fail
        go_roundw
        case rel => exact ⟨_, _, _, _, _, _, _, _, _, _, _, _, _, ⟨i + 1, by omega, by go_num, H5.out.1, H5.out.2.1, H5.out.2.2.1, H5.out.2.2.2.1, H5.out.2.2.2.2⟩, rfl⟩
        case measure => simp [intOf]; omega
      ·obtain rfl : i = k + 1 := by omega
       have hnle : ¬ ((k + 1 : Nat) : Int) ≤ (k : Int) := by omega
       rw [colP_col] at hC
       clear hle hi
       go_wp2_with fail
       go_roundw
       case rel => exact ⟨k + 1, by omega, by go_num, hF, hP, hQ, hR, hC⟩
       case measure => simp only [intOf]; omega
    ·obtain rfl : k = 24 := by omega
     clear hlt hk
     have hC := hC.congr (fun m hm => colP_all (condF f) hm)
     go_wp2_with fail
     rw [zeroRowsR, zero48]
     have hBase : Base w C (condF f) (noiP q 24) (colW (condF f)) wr := ⟨hP, hQ, hR, hC, nC⟩
     have hC0 : C < wr.heap.size := hC.lt
     clear hP hQ hR hC
     generalize hX : World.alloc (World.alloc wr _) _ = X2
     have hF4 : FlW p o (h0 || anyN (rowsHQ f g) 0) w X2 := by subst hX; exact flag_is (by show _ = (_ || false); rw [Bool.or_false]) ((hF.alloc _).alloc _)
     have hS4 : Base w C (condF f) (noiP q 24) (colW (condF f)) X2 := by subst hX; exact (hBase.alloc _).alloc _
     have hW4 : Blk X2 wr.heap.size (rowA 1152 (rowQ (condF f) (sat576 g) (fun _ => 24) 0 0)) 199 := by subst hX; rw [rowQ_zero]; exact (Blk.made _ _ _ rfl).alloc _
     have hE4 : Blk X2 (wr.heap.size + 1) (rowA 48 (weiQ (condF f) (noiP q 24) 0)) 166 := by subst hX; rw [weiQ_zero]; exact Blk.made _ _ _ (by simp)
     clear hF hBase hX
     generalize wr.heap.size = B at *
     go_loopw [15] (fun i' wr => ∃ i : Nat, i ≤ 24 ∧ i' = .int .i64 i ∧ FlW p o (h0 || anyN (rowsHQ f g) i) w wr ∧ Base w C (condF f) (noiP q 24) (colW (condF f)) wr ∧ Blk wr B (rowA 1152 (rowQ (condF f) (sat576 g) (fun _ => 24) i 0)) 199 ∧ Blk wr (B + 1) (rowA 48 (weiQ (condF f) (noiP q 24) i)) 166) (fun i' _ => 24 - (intOf i').toNat)
     case atStart => exact ⟨0, by omega, rfl, hF4, hS4, hW4, hE4⟩
     case round =>
      clear hF4 hS4 hW4 hE4
      obtain ⟨i, hi, rfl, hF, hS, hW, hE⟩ := hrel
      by_cases hlt : i < 24
      ·have hltI : (i : Int) < 24 := by omega
       have hi0 : (0 : Int) ≤ (i : Int) := by omega
       go_upto_region 20 with (first
        | ((with_reducible refine row_store 91 (.tmp 16) (.tmp 63) ?_ ?_ wr.heap.size 24 (fun _ => 0) (fun _ => 0) 91 ?_ ?_ ?_ rowDSize ?_); rfl; rfl; rfl; rfl; exact Blk.made _ _ _ rfl))
       rw [zero24]
       have nE : B + 1 < wr.heap.size := hE.lt
       generalize hX : World.setRow _ _ _ = X3
       have hF5 : FlW p o (h0 || anyN (rowsHQ f g) i || anyN (fun t => sath (g (24 * i + t))) 0) w X3 := by subst hX; exact flag_is (by show _ = (_ || false); rw [Bool.or_false]) ((hF.alloc _).row (by have := hF.size; omega) _)
       have hS5 : Base w C (condF f) (noiP q 24) (colW (condF f)) X3 := by subst hX; exact (hS.alloc _).row (by omega) _
       have hW5 : Blk X3 B (rowA 1152 (rowQ (condF f) (sat576 g) (fun _ => 24) i 0)) 199 := by subst hX; exact (hW.alloc _).otherRow (by omega)
       have hE5 : Blk X3 (B + 1) (rowA 48 (weiQ (condF f) (noiP q 24) i)) 166 := by subst hX; exact (hE.alloc _).otherRow (by omega)
       have hZ5 : Blk X3 wr.heap.size (rowA 24 (upTo (fun t => sat576 g (24 * i + t)) 0)) 91 := by subst hX; rw [upTo_zero]; exact (Blk.made _ _ _ rfl).setRow
       have hzw := hF.size
       clear hF hS hW hE hX
       generalize wr.heap.size = Z at *
       go_wp2_with fail
       go_loopw [17] (fun k' wr => ∃ k : Nat, k ≤ 24 ∧ k' = .int .i64 k ∧ FlW p o (h0 || anyN (rowsHQ f g) i || anyN (fun t => sath (g (24 * i + t))) k) w wr ∧ Base w C (condF f) (noiP q 24) (colW (condF f)) wr ∧ Blk wr B (rowA 1152 (rowQ (condF f) (sat576 g) (fun _ => 24) i 0)) 199 ∧ Blk wr (B + 1) (rowA 48 (weiQ (condF f) (noiP q 24) i)) 166 ∧ Blk wr Z (rowA 24 (upTo (fun t => sat576 g (24 * i + t)) k)) 91) (fun k' _ => 24 - (intOf k').toNat)
       case atStart => exact ⟨0, by omega, rfl, hF5, hS5, hW5, hE5, hZ5⟩
       case round =>
        clear hF5 hS5 hW5 hE5 hZ5
        obtain ⟨k, hk, rfl, hF, hS, hW, hE, hZ⟩ := hrel
        have fr := (hF.fl fl).drew
        have hCp := hS.gt
        by_cases hlk : k < 24
        ·have hlkI : (k : Int) < 24 := by omega
         have hk0 : (0 : Int) ≤ (k : Int) := by omega
         have c1 := (hF.cell hb (.inl hbp)).trans (hx.at_ (24 * i + k) (by omega))
         rw [show bo + (24 * i + k) = bo + i * 24 + k by omega] at c1
         have HN := Lib.hid (upTo_next (fun t => sat576 g (24 * i + t)) k)
         have HA := Lib.hid (show (h0 || anyN (rowsHQ f g) i || anyN (fun t => sath (g (24 * i + t))) (k + 1)) = (h0 || anyN (rowsHQ f g) i || anyN (fun t => sath (g (24 * i + t))) k || sath (g (24 * i + k))) by simp only [anyN, Bool.or_assoc])
         have H := Lib.hid (And.intro hF (And.intro hS (And.intro hW (And.intro hE hZ))))
         clear hF hS hW hE hZ
         go_wp2_with fail
         go_region_with (first
          | (go_at_call 137; refine (qsat p o (g (24 * i + k)) _ _ fr).mono ?_; rintro e w4 ⟨rfl, kk⟩; have hZ4 := H.out.2.2.2.2.drew.flag (by omega) kk; have hc := hZ4.cell k; rw [rowA_get _ (by omega)] at hc; have hf := hZ4.free k))
         all_goals
          obtain ⟨hF, hS, hW, hE, hZ⟩ := H.out
          have hF6 := flag_is HA.out.symm ((hF.drew.trans kk).other (b := Z) (i := k) (by omega) (.int .i64 (satv (g (24 * i + k)))))
          have hS6 := (hS.drew.flag hpw kk).other (b := Z) (by omega) k (.int .i64 (satv (g (24 * i + k))))
          have hW6 := (hW.drew.flag (by omega) kk).other (b := Z) (i := k) (by omega) (.int .i64 (satv (g (24 * i + k))))
          have hE6 := (hE.drew.flag (by omega) kk).other (b := Z) (i := k) (by omega) (.int .i64 (satv (g (24 * i + k))))
          have hZ6 := hZ4.setI (k := k) (by omega) (sat576 g (24 * i + k))
          rw [HN.out] at hZ6
          have H6 := Lib.hid (And.intro hF6 (And.intro hS6 (And.intro hW6 (And.intro hE6 hZ6))))
          clear hF6 hS6 hW6 hE6 hZ6 hF hS hW hE hZ hZ4 H kk
          go_wp2_with fail
          go_roundw
          case rel => exact ⟨k + 1, by omega, by go_num, H6.out.1, H6.out.2.1, H6.out.2.2.1, H6.out.2.2.2.1, H6.out.2.2.2.2⟩
          case measure => simp [intOf]; omega
        ·obtain rfl : k = 24 := by omega
         clear hlk hk fr
         have hZ := hZ.congr (fun m hm => upTo_all hm)
         have hF : FlW p o (h0 || anyN (rowsHQ f g) i || anyN (fun t => sath (g (24 * i + t))) 24 || anyN (fun k => doth (fun t => sat576 g (24 * i + t)) (fun t => uF (condF f) (t : Int) (k : Int)) 24) 0) w wr := flag_is (by show _ = (_ || false); rw [Bool.or_false]) hF
         go_wp2_with fail
         go_loopw [18] (fun k' wr => ∃ k : Nat, k ≤ 24 ∧ k' = .int .i64 k ∧ FlW p o (h0 || anyN (rowsHQ f g) i || anyN (fun t => sath (g (24 * i + t))) 24 || anyN (fun k => doth (fun t => sat576 g (24 * i + t)) (fun t => uF (condF f) (t : Int) (k : Int)) 24) k) w wr ∧ Base w C (condF f) (noiP q 24) (colW (condF f)) wr ∧ Blk wr B (rowA 1152 (rowQ (condF f) (sat576 g) (fun _ => 24) i k)) 199 ∧ Blk wr (B + 1) (rowA 48 (weiQ (condF f) (noiP q 24) i)) 166 ∧ Blk wr Z (rowA 24 (fun t => sat576 g (24 * i + t))) 91) (fun k' _ => 24 - (intOf k').toNat)
         case atStart => exact ⟨0, by omega, rfl, hF, hS, hW, hE, hZ⟩
         case round =>
          clear hF hS hW hE hZ
          obtain ⟨k, hk, rfl, hF, hS, hW, hE, hZ⟩ := hrel
          have fr := (hF.fl fl).drew
          by_cases hlk : k < 24
          ·have hlkI : (k : Int) < 24 := by omega
           have hlk48 : (k : Int) < 48 := by omega
           have hk0 : (0 : Int) ≤ (k : Int) := by omega
           have hys : Ints wr.drew C (k * 24) 24 (fun t => uF (condF f) (t : Int) (k : Int)) := by
            have := (hS.K.ints.part (k * 24) 24 (by omega)).drew
            rw [Nat.zero_add] at this
            refine this.congr fun t ht => ?_
            unfold colW
            rw [show (k * 24 + t) % 24 = t by omega, show (k * 24 + t) / 24 = k by omega]
           have hxs : Ints wr.drew Z 0 24 (fun t => sat576 g (24 * i + t)) := hZ.drew.ints
           have hZl : Z < wr.drew.heap.size := hZ.lt
           have hCl : C < wr.drew.heap.size := hS.K.lt
           have HN := Lib.hid (rowQ_next (condF f) (sat576 g) (fun _ => 24) (i := i) hlk)
           have HA := Lib.hid (show (h0 || anyN (rowsHQ f g) i || anyN (fun t => sath (g (24 * i + t))) 24 || anyN (fun k => doth (fun t => sat576 g (24 * i + t)) (fun t => uF (condF f) (t : Int) (k : Int)) 24) (k + 1)) = (h0 || anyN (rowsHQ f g) i || anyN (fun t => sath (g (24 * i + t))) 24 || anyN (fun k => doth (fun t => sat576 g (24 * i + t)) (fun t => uF (condF f) (t : Int) (k : Int)) 24) k || anyP (fun t => sat576 g (24 * i + t)) (fun t => uF (condF f) (t : Int) (k : Int)) 24 || sath (rnd (sumP (fun t => sat576 g (24 * i + t)) (fun t => uF (condF f) (t : Int) (k : Int)) 24) 30)) by
            rw [show anyN (fun k => doth (fun t => sat576 g (24 * i + t)) (fun t => uF (condF f) (t : Int) (k : Int)) 24) (k + 1) = (anyN (fun k => doth (fun t => sat576 g (24 * i + t)) (fun t => uF (condF f) (t : Int) (k : Int)) 24) k || (anyP (fun t => sat576 g (24 * i + t)) (fun t => uF (condF f) (t : Int) (k : Int)) 24 || sath (rnd (sumP (fun t => sat576 g (24 * i + t)) (fun t => uF (condF f) (t : Int) (k : Int)) 24) 30))) from rfl]
            simp only [Bool.or_assoc])
           have H := Lib.hid (And.intro hF (And.intro hS (And.intro hW (And.intro hE hZ))))
           clear hF hS hW hE hZ
           go_wp2_with fail
           go_region_with (first
            | (go_at_call 75; refine (qdot p o Z 0 24 C (k * 24) 24 (fun t => sat576 g (24 * i + t)) (fun t => uF (condF f) (t : Int) (k : Int)) 30 24 _ _ fr (by omega) (by omega) hZl hCl (by omega) (by omega) hxs hys).mono ?_; rintro e w4 ⟨rfl, kk⟩; have hW4 := H.out.2.2.1.drew.flag (by omega) kk; have hc := hW4.cell (i * 48 + k); rw [rowA_get _ (by omega)] at hc; have hf := hW4.free (i * 48 + k)))
           all_goals
            obtain ⟨hF, hS, hW, hE, hZ⟩ := H.out
            have hF6 := flag_is HA.out.symm ((hF.drew.trans kk).other (b := B) (i := i * 48 + k) (by have := hS.gt; omega) (.int .i64 (dotv (fun t => sat576 g (24 * i + t)) (fun t => uF (condF f) (t : Int) (k : Int)) 24)))
            have hS6 := (hS.drew.flag hpw kk).other (b := B) (by omega) (i * 48 + k) (.int .i64 (dotv (fun t => sat576 g (24 * i + t)) (fun t => uF (condF f) (t : Int) (k : Int)) 24))
            have hE6 := (hE.drew.flag (by omega) kk).other (b := B) (i := i * 48 + k) (by omega) (.int .i64 (dotv (fun t => sat576 g (24 * i + t)) (fun t => uF (condF f) (t : Int) (k : Int)) 24))
            have hZ6 := (hZ.drew.flag (by omega) kk).other (b := B) (i := i * 48 + k) (by omega) (.int .i64 (dotv (fun t => sat576 g (24 * i + t)) (fun t => uF (condF f) (t : Int) (k : Int)) 24))
            have hW6 := hW4.setI (k := i * 48 + k) (by omega) (dotv (fun t => sat576 g (24 * i + t)) (fun t => uF (condF f) (t : Int) (k : Int)) 24)
            rw [HN.out] at hW6
            have H6 := Lib.hid (And.intro hF6 (And.intro hS6 (And.intro hW6 (And.intro hE6 hZ6))))
            clear hF6 hS6 hW6 hE6 hZ6 hF hS hW hE hZ hW4 H kk
            go_wp2_with fail
            go_roundw
            case rel => exact ⟨_, _, _, _, _, _, _, _, _, _, _, _, _, _, _, _, _, ⟨k + 1, by omega, by go_num, H6.out.1, H6.out.2.1, H6.out.2.2.1, H6.out.2.2.2.1, H6.out.2.2.2.2⟩, rfl⟩
            case measure => simp [intOf]; omega
          ·obtain rfl : k = 24 := by omega
           clear hlk hk fr
           have HO := Lib.hid (rowQ_row (condF f) (sat576 g) (fun _ => 24) hlt)
           have HE := Lib.hid (weiQ_next (condF f) (noiP q 24) hlt)
           have HR := Lib.hid (show (h0 || anyN (rowsHQ f g) (i + 1)) = (h0 || anyN (rowsHQ f g) i || anyN (fun t => sath (g (24 * i + t))) 24 || anyN (fun k => doth (fun t => sat576 g (24 * i + t)) (fun t => uF (condF f) (t : Int) (k : Int)) 24) 24) by
            rw [show anyN (rowsHQ f g) (i + 1) = (anyN (rowsHQ f g) i || rowsHQ f g i) from rfl]
            unfold rowsHQ
            simp only [Bool.or_assoc])
           have hgt := hS.gt
           have hc := hW.cell (i * 48 + (24 + i))
           rw [rowA_get _ (by omega)] at hc
           have hf := hW.free (i * 48 + (24 + i))
           have hW6 := hW.setI (k := i * 48 + (24 + i)) (by omega) 1073741824
           rw [HO.out] at hW6
           have hF6 := flag_is HR.out.symm (hF.other (b := B) (i := i * 48 + (24 + i)) (by omega) (.int .i64 1073741824))
           have hS6 := hS.other (b := B) (by omega) (i * 48 + (24 + i)) (.int .i64 1073741824)
           have hE6 := hE.other (b := B) (i := i * 48 + (24 + i)) (by omega) (.int .i64 1073741824)
           have H6 := Lib.hid (And.intro hF6 (And.intro hS6 (And.intro hW6 hE6)))
           clear hF hS hW hE hZ hF6 hS6 hW6 hE6
           go_upto_region 29 with (fail)
           clear hc hf
           obtain ⟨hF, hS, hW, hE⟩ := H6.out
           clear H6
           generalize World.setCell _ _ _ = w5 at *
           have c1 := hS.P.cell (276 + i)
           rw [rowA_get _ (by omega)] at c1
           have hc := hE.cell i
           rw [rowA_get _ (by omega)] at hc
           have hf := hE.free i
           have hi48 : (i : Int) < 48 := by omega
           have hE6 := hE.setI (k := i) (by omega) (condF f (276 + i))
           have hF6 := hF.other (b := B + 1) (i := i) (by omega) (.int .i64 (condF f (276 + i)))
           have hS6 := hS.other (b := B + 1) (by omega) i (.int .i64 (condF f (276 + i)))
           have hW6 := hW.other (b := B + 1) (i := i) (by omega) (.int .i64 (condF f (276 + i)))
           have H6 := Lib.hid (And.intro hF6 (And.intro hS6 (And.intro hW6 hE6)))
           clear hF hS hW hE hF6 hS6 hW6 hE6
           go_upto_region 30 with (fail)
           clear hc hf c1
           obtain ⟨hF, hS, hW, hE⟩ := H6.out
           clear H6
           generalize World.setCell _ _ _ = w6 at *
           have c1 := hS.Q.cell i
           rw [rowA_get _ (by omega)] at c1
           have hc := hE.cell (24 + i)
           rw [rowA_get _ (by omega)] at hc
           have hf := hE.free (24 + i)
           have hE6 := hE.setI (k := 24 + i) (by omega) (noiP q 24 i)
           rw [HE.out] at hE6
           have hF6 := hF.other (b := B + 1) (i := 24 + i) (by omega) (.int .i64 (noiP q 24 i))
           have hS6 := hS.other (b := B + 1) (by omega) (24 + i) (.int .i64 (noiP q 24 i))
           have hW6 := hW.other (b := B + 1) (i := 24 + i) (by omega) (.int .i64 (noiP q 24 i))
           have H6 := Lib.hid (And.intro hF6 (And.intro hS6 (And.intro hW6 hE6)))
           clear hF hS hW hE hF6 hS6 hW6 hE6
           go_wp2_with fail
           go_roundw
           case rel => first
            | exact ⟨i + 1, by omega, by go_num, H6.out.1, H6.out.2.1, H6.out.2.2.1, H6.out.2.2.2⟩
            | exact ⟨_, _, _, _, _, _, _, _, _, _, _, _, _, _, _, _, _, _, _, _, _, _, _, _, _, _, _, _, _, _, _, _, _, _, _, _, _, _, _, _, _, _, _, _, _, _, _, _, _, _, _, _, _, _, _, _, _, _, _, ⟨i + 1, by omega, by go_num, H6.out.1, H6.out.2.1, H6.out.2.2.1, H6.out.2.2.2⟩, rfl⟩
           case measure => simp [intOf]; omega
      ·obtain rfl : i = 24 := by omega
       clear hlt hi
       have hW := hW.congr (fun m hm => rowQ_all (condF f) (sat576 g) (fun _ => 24) hm)
       have hE := hE.congr (fun m hm => weiQ_all (condF f) q hm)
       rw [rowW_24] at hW
       have hFs : FlW p o (h0 || anyN (rowsHQ f g) 24 || stH (rowW (condF f) (sat576 g) fun k => k + 1) (wei (condF f) q) 0) w wr := flag_is (by show _ = (_ || false); rw [Bool.or_false]) hF
       have hR := hS.R
       have nE : B + 1 < wr.heap.size := hE.lt
       clear hF hS
       generalize (rowW (condF f) (sat576 g) fun k => k + 1) = V at *
       generalize wei (condF f) q = e at *
       generalize (h0 || anyN (rowsHQ f g) 24) = h1 at *
       have gB : w.heap.size + 2 < B := by omega
       go_upto_region 32 with (first
        | (rw [zeroCov]; (with_reducible refine row_store 93 (.tmp 19) (.tmp 114) ?_ ?_ wr.heap.size 300 (fun _ => 0) (fun _ => 0) 93 ?_ ?_ ?_ covSize ?_); rfl; rfl; rfl; rfl; exact Blk.made _ _ _ rfl))
       generalize hX : World.setRow _ _ _ = X4
       have hN : Blk X4 wr.heap.size (rowA 300 (stO V e 0)) 93 := by subst hX; exact (Blk.made _ _ _ rfl).setRow
       have hF2 : FlW p o (h1 || stH V e 0) w X4 := by subst hX; exact (hFs.alloc _).row (by have := hFs.size; omega) _
       have hR2 : Blk X4 (w.heap.size + 2) (rowA 300 fun _ => 0) 93 := by subst hX; exact (hR.alloc _).otherRow (by omega)
       have hW2 : Blk X4 B (rowA 1152 (stW V e 0)) 199 := by subst hX; exact (hW.alloc _).otherRow (by omega)
       have hE2 : Blk X4 (B + 1) (rowA 48 e) 166 := by subst hX; exact (hE.alloc _).otherRow (by omega)
       clear hX hFs hR hW hE
       generalize wr.heap.size = N at *
       go_wp2_with fail
       go_loopw [20] (fun j' wr => ∃ n : Nat, n ≤ 24 ∧ j' = .int .i64 (23 - (n : Int)) ∧ FlW p o (h1 || stH V e n) w wr ∧ Blk wr (w.heap.size + 2) (rowA 300 fun _ => 0) 93 ∧ Blk wr B (rowA 1152 (stW V e n)) 199 ∧ Blk wr (B + 1) (rowA 48 e) 166 ∧ Blk wr N (rowA 300 (stO V e n)) 93) (fun j' _ => (intOf j' + 1).toNat)
       case atStart => exact ⟨0, by omega, rfl, hF2, hR2, hW2, hE2, hN⟩
       case round =>
        clear hF2 hR2 hW2 hE2 hN
        obtain ⟨n, hn, rfl, hF, hR, hB, hE, hN⟩ := hrel
        by_cases hlt : n < 24
        ·have HW := Lib.hid (show stW V e (n + 1) = nexW (stW V e n) e (23 - n) (23 - n) from rfl)
         have HO := Lib.hid (show stO V e (n + 1) = outI (stW V e n) e (stO V e n) (23 - n) (23 - n) from rfl)
         have HT := Lib.hid (show (h1 || stH V e (n + 1)) = (h1 || stH V e n || (dH (stW V e n) e (23 - n) || nexH (stW V e n) e (23 - n) (23 - n))) by rw [Bool.or_assoc]; rfl)
         have ej : (23 - (n : Int)) = ((23 - n : Nat) : Int) := by omega
         rw [ej]
         have hjn : (23 - n) + n = 23 := by omega
         generalize 23 - n = j at *
         clear ej
         generalize stW V e n = W at *
         generalize stO V e n = O at *
         generalize (h1 || stH V e n) = h2 at *
         have hj24 : j < 24 := by omega
         have hjI : (j : Int) < 24 := by omega
         have hj0 : (0 : Int) ≤ (j : Int) := by omega
         have nN : N < wr.heap.size := hN.lt
         go_upto_region 36 with (first
          | (rw [zero48]; (with_reducible refine row_store 166 (.tmp 21) (.tmp 119) ?_ ?_ wr.heap.size 48 (fun _ => 0) (fun _ => 0) 166 ?_ ?_ ?_ lineSizeR ?_); rfl; rfl; rfl; rfl; exact Blk.made _ _ _ rfl))
         generalize hX : World.setRow _ _ _ = X5
         have hF5 : FlW p o (h2 || anyN (yH W e j) 0) w X5 := by subst hX; exact flag_is (by show _ = (_ || false); rw [Bool.or_false]) ((hF.alloc _).row (by have := hF.size; omega) _)
         have hR5 : Blk X5 (w.heap.size + 2) (rowA 300 fun _ => 0) 93 := by subst hX; exact (hR.alloc _).otherRow (by omega)
         have hB5 : Blk X5 B (rowA 1152 W) 199 := by subst hX; exact (hB.alloc _).otherRow (by omega)
         have hE5 : Blk X5 (B + 1) (rowA 48 e) 166 := by subst hX; exact (hE.alloc _).otherRow (by omega)
         have hN5 : Blk X5 N (rowA 300 O) 93 := by subst hX; exact (hN.alloc _).otherRow (by omega)
         have hY5 : Blk X5 wr.heap.size (rowA 48 (upTo (yF W e j) 0)) 166 := by subst hX; rw [upTo_zero]; exact (Blk.made _ _ _ rfl).setRow
         have hzw := hF.size
         clear hX hF hR hB hE hN
         generalize wr.heap.size = Y at *
         go_wp2_with fail
         go_loopw [22] (fun k' wr => ∃ k : Nat, k ≤ 48 ∧ k' = .int .i64 k ∧ FlW p o (h2 || anyN (yH W e j) k) w wr ∧ Blk wr (w.heap.size + 2) (rowA 300 fun _ => 0) 93 ∧ Blk wr B (rowA 1152 W) 199 ∧ Blk wr (B + 1) (rowA 48 e) 166 ∧ Blk wr N (rowA 300 O) 93 ∧ Blk wr Y (rowA 48 (upTo (yF W e j) k)) 166) (fun k' _ => 48 - (intOf k').toNat)
         case atStart => exact ⟨0, by omega, rfl, hF5, hR5, hB5, hE5, hN5, hY5⟩
         case round =>
          clear hF5 hR5 hB5 hE5 hN5 hY5
          obtain ⟨k, hk, rfl, hF, hR, hB, hE, hN, hY⟩ := hrel
          have fr := (hF.fl fl).drew
          by_cases hlk : k < 48
          ·have hlkI : (k : Int) < 48 := by omega
           have hk0 : (0 : Int) ≤ (k : Int) := by omega
           have c1 := hB.cell (j * 48 + k)
           rw [rowA_get _ (by omega)] at c1
           have c2 := hE.cell k
           rw [rowA_get _ (by omega)] at c2
           have HN := Lib.hid (upTo_next (yF W e j) k)
           have HV := Lib.hid (show mulv (W (j * 48 + k)) (e k) = yF W e j k ∧ mulh (W (j * 48 + k)) (e k) = yH W e j k by rw [Nat.mul_comm j 48]; exact ⟨rfl, rfl⟩)
           have HA := Lib.hid (show (h2 || anyN (yH W e j) (k + 1)) = (h2 || anyN (yH W e j) k || yH W e j k) by rw [anyN, Bool.or_assoc])
           have H := Lib.hid (And.intro hF (And.intro hR (And.intro hB (And.intro hE (And.intro hN hY)))))
           clear hF hR hB hE hN hY
           go_wp2_with fail
           go_region_with (first
            | (go_at_call 103; refine (qm_mulv p o (W (j * 48 + k)) (e k) _ _ fr).mono ?_; rintro e' w4 ⟨rfl, kk⟩; have hY4 := H.out.2.2.2.2.2.drew.flag (by omega) kk; have hc := hY4.cell k; rw [rowA_get _ (by omega)] at hc; have hf := hY4.free k))
           all_goals
            obtain ⟨hF, hR, hB, hE, hN, hY⟩ := H.out
            rw [HV.out.1]
            rw [HV.out.2] at kk
            have hF6 := flag_is HA.out.symm ((hF.drew.trans kk).other (b := Y) (i := k) (by omega) (.int .i64 (yF W e j k)))
            have hR6 := (hR.drew.flag (by omega) kk).other (b := Y) (i := k) (by omega) (.int .i64 (yF W e j k))
            have hB6 := (hB.drew.flag (by omega) kk).other (b := Y) (i := k) (by omega) (.int .i64 (yF W e j k))
            have hE6 := (hE.drew.flag (by omega) kk).other (b := Y) (i := k) (by omega) (.int .i64 (yF W e j k))
            have hN6 := (hN.drew.flag (by omega) kk).other (b := Y) (i := k) (by omega) (.int .i64 (yF W e j k))
            have hY6 := hY4.setI (k := k) (by omega) (yF W e j k)
            rw [HN.out] at hY6
            have H6 := Lib.hid (And.intro hF6 (And.intro hR6 (And.intro hB6 (And.intro hE6 (And.intro hN6 hY6)))))
            clear hF6 hR6 hB6 hE6 hN6 hY6 hF hR hB hE hN hY hY4 H kk
            go_wp2_with fail
            go_roundw
            case rel => first
             | exact ⟨k + 1, by omega, by go_num, H6.out.1, H6.out.2.1, H6.out.2.2.1, H6.out.2.2.2.1, H6.out.2.2.2.2.1, H6.out.2.2.2.2.2⟩
             | exact ⟨_, _, _, _, _, _, _, _, _, _, _, _, _, _, _, _, _, _, _, ⟨k + 1, by omega, by go_num, H6.out.1, H6.out.2.1, H6.out.2.2.1, H6.out.2.2.2.1, H6.out.2.2.2.2.1, H6.out.2.2.2.2.2⟩, rfl⟩
            case measure => simp [intOf]; omega
          ·obtain rfl : k = 48 := by omega
           clear hlk hk fr
           have hY := hY.congr (fun m hm => upTo_all hm)
           go_upto_region 40 with (fail)
           have fr := (hF.fl fl).drew
           have hxs : Ints wr.drew B (j * 48) 48 (rowJ W j) := by
            have := (hB.ints.part (j * 48) 48 (by omega)).drew
            rw [Nat.zero_add, Nat.mul_comm j 48] at this
            rw [Nat.mul_comm j 48]; exact this
           have hBl : B < wr.drew.heap.size := hB.lt
           have hYl : Y < wr.drew.heap.size := hY.lt
           have H := Lib.hid (And.intro hF (And.intro hR (And.intro hB (And.intro hE (And.intro hN hY)))))
           clear hF hR hB hE hN
           have hys : Ints wr.drew Y 0 48 (yF W e j) := hY.drew.ints
           clear hY
           go_region_with (first
            | (go_at_call 75; refine (qdot p o B (j * 48) 48 Y 0 48 (rowJ W j) (yF W e j) 30 48 _ _ fr (by omega) (by omega) hBl hYl (by omega) (by omega) hxs hys).mono ?_; rintro e' w6 ⟨rfl, k6⟩; have f6 := k6.fl fr)
            | (go_at_call 139; refine (qclamp p o (dotv (rowJ W j) (yF W e j) 48) 1 72057594037927936 _ _ f6).mono ?_; rintro e' w7 ⟨rfl, k7⟩))
           rw [show clampv (dotv (rowJ W j) (yF W e j) 48) 1 72057594037927936 = dF W e j from rfl]
           obtain ⟨hF, hR, hB, hE, hN, hY⟩ := H.out
           clear H hxs hys hBl hYl
           have hF7 : FlW p o (h2 || dH W e j) w w7 := flag_is (by unfold dH doth dotv; simp only [Bool.or_assoc]) ((hF.drew.trans k6).trans k7)
           have hR7 := (hR.drew.flag (by omega) k6).flag (by omega) k7
           have hB7 := (hB.drew.flag (by omega) k6).flag (by omega) k7
           have hE7 := (hE.drew.flag (by omega) k6).flag (by omega) k7
           have hN7 := (hN.drew.flag (by omega) k6).flag (by omega) k7
           have hY7 := (hY.drew.flag (by omega) k6).flag (by omega) k7
           have hc := hN7.cell (276 + j)
           rw [rowA_get _ (by omega)] at hc
           have hf := hN7.free (276 + j)
           have hN8 : Blk (w7.setCell ⟨N, 276 + j, none⟩ (.int .i64 (dF W e j))) N (rowA 300 (outI W e O j 0)) 93 := hN7.setI (k := 276 + j) (by omega) (dF W e j)
           have hF8 : FlW p o (h2 || dH W e j || nexH W e j 0) w (w7.setCell ⟨N, 276 + j, none⟩ (.int .i64 (dF W e j))) := flag_is (by show _ = (_ || false); rw [Bool.or_false]) (hF7.other (b := N) (i := 276 + j) (by omega) (.int .i64 (dF W e j)))
           have hR8 := hR7.other (b := N) (i := 276 + j) (by omega) (.int .i64 (dF W e j))
           have hB8 : Blk (w7.setCell ⟨N, 276 + j, none⟩ (.int .i64 (dF W e j))) B (rowA 1152 (nexW W e j 0)) 199 := hB7.other (b := N) (i := 276 + j) (by omega) (.int .i64 (dF W e j))
           have hE8 := hE7.other (b := N) (i := 276 + j) (by omega) (.int .i64 (dF W e j))
           have hY8 := hY7.other (b := N) (i := 276 + j) (by omega) (.int .i64 (dF W e j))
           have H8 := Lib.hid (And.intro hF8 (And.intro hR8 (And.intro hB8 (And.intro hE8 (And.intro hN8 hY8)))))
           clear hF7 hR7 hB7 hE7 hN7 hY7 hF hR hB hE hN hY k6 k7 f6 fr hF8 hR8 hB8 hE8 hN8 hY8
           go_wp2_with fail
           obtain ⟨hF8, hR8, hB8, hE8, hN8, hY8⟩ := H8.out
           clear H8 hc hf
           generalize World.setCell _ _ _ = w8 at *
           go_loopw [24] (fun i' wr => ∃ i : Nat, i ≤ j ∧ i' = .int .i64 i ∧ FlW p o (h2 || dH W e j || nexH W e j i) w wr ∧ Blk wr (w.heap.size + 2) (rowA 300 fun _ => 0) 93 ∧ Blk wr B (rowA 1152 (nexW W e j i)) 199 ∧ Blk wr (B + 1) (rowA 48 e) 166 ∧ Blk wr N (rowA 300 (outI W e O j i)) 93 ∧ Blk wr Y (rowA 48 (yF W e j)) 166) (fun i' _ => j - (intOf i').toNat)
           case atStart => exact ⟨0, by omega, rfl, hF8, hR8, hB8, hE8, hN8, hY8⟩
           case round =>
            clear hF8 hR8 hB8 hE8 hN8 hY8
            obtain ⟨i, hi, rfl, hF, hR, hB, hE, hN, hY⟩ := hrel
            by_cases hij : i < j
            ·have hijI : (i : Int) < (j : Int) := by omega
             have hi24 : (i : Int) < 24 := by omega
             have hi0 : (0 : Int) ≤ (i : Int) := by omega
             have HU := Lib.hid (show quov (satv (rnd (sumP (rowJ (nexW W e j i) i) (yF W e j) 48) 30)) (dF W e j) = uS W e j i ∧ (doth (rowJ (nexW W e j i) i) (yF W e j) 48 || quoh (dotv (rowJ (nexW W e j i) i) (yF W e j) 48) (dF W e j)) = uSH W e j i by
              have e1 : rowJ (nexW W e j i) i = rowJ W i := funext fun k => rowJ_nex W e (Nat.le_refl i) k
              rw [e1]; exact ⟨rfl, rfl⟩)
             have fr := (hF.fl fl).drew
             have hxs : Ints wr.drew B (i * 48) 48 (rowJ (nexW W e j i) i) := by
              have := (hB.ints.part (i * 48) 48 (by omega)).drew
              rw [Nat.zero_add, Nat.mul_comm i 48] at this
              rw [Nat.mul_comm i 48]; exact this
             have hys : Ints wr.drew Y 0 48 (yF W e j) := hY.drew.ints
             have hBl : B < wr.drew.heap.size := hB.lt
             have hYl : Y < wr.drew.heap.size := hY.lt
             have H := Lib.hid (And.intro hF (And.intro hR (And.intro hB (And.intro hE (And.intro hN hY)))))
             clear hF hR hB hE hN hY
             go_wp2_with fail
             go_region_with (first
              | (go_at_call 75; refine (qdot p o B (i * 48) 48 Y 0 48 (rowJ (nexW W e j i) i) (yF W e j) 30 48 _ _ fr (by omega) (by omega) hBl hYl (by omega) (by omega) hxs hys).mono ?_; rintro e' w6 ⟨rfl, k6⟩; have f6 := k6.fl fr)
              | (go_at_call 142; (refine (qd_quov p o (satv (rnd (sumP (rowJ (nexW W e j i) i) (yF W e j) 48) 30)) (dF W e j) _ _ f6).mono ?_; rintro e' w7 ⟨rfl, k7⟩)))
             rw [HU.out.1]
             obtain ⟨hF, hR, hB, hE, hN, hY⟩ := H.out
             clear H hxs hys hBl hYl
             have hF7 : FlW p o (h2 || dH W e j || nexH W e j i || uSH W e j i) w w7 := flag_is (by rw [← HU.out.2]; unfold doth dotv; simp only [Bool.or_assoc]) ((hF.drew.trans k6).trans k7)
             have hR7 := (hR.drew.flag (by omega) k6).flag (by omega) k7
             have hB7 := (hB.drew.flag (by omega) k6).flag (by omega) k7
             have hE7 := (hE.drew.flag (by omega) k6).flag (by omega) k7
             have hN7 := (hN.drew.flag (by omega) k6).flag (by omega) k7
             have hY7 := (hY.drew.flag (by omega) k6).flag (by omega) k7
             clear hF hR hB hE hN hY k6 k7 f6 fr HU
             have ep : plc (i : Int) (j : Int) = ((plcN j + i : Nat) : Int) := by
              have := plc_N i hj24
              have := plc_bd (i := i) (j := j) hi0 hijI hjI
              omega
             have hm276 : plcN j + i < 276 := by
              have := plcN_le (j + 1) (by omega)
              have := plcN_next j hj24
              omega
             have HPL := Lib.hid (fun w => ep ▸ rplace_is (i : Int) (j : Int) w hi0 hijI hjI)
             have HXO := Lib.hid (show outI W e O j (i + 1) = upd (outI W e O j i) (plcN j + i) (uS W e j i) by rw [← plc_N i hj24]; rfl)
             have hmI : ((plcN j + i : Nat) : Int) < 276 := by omega
             have hmI0 : (0 : Int) ≤ ((plcN j + i : Nat) : Int) := by omega
             clear ep
             generalize plcN j + i = m at *
             have hc := hN7.cell m
             rw [rowA_get _ (by omega)] at hc
             have hf := hN7.free m
             have hN8 := hN7.setI (k := m) (by omega) (uS W e j i)
             rw [← HXO.out] at hN8
             have hF8 := hF7.other (b := N) (i := m) (by omega) (.int .i64 (uS W e j i))
             have hR8 := hR7.other (b := N) (i := m) (by omega) (.int .i64 (uS W e j i))
             have hB8 := hB7.other (b := N) (i := m) (by omega) (.int .i64 (uS W e j i))
             have hE8 := hE7.other (b := N) (i := m) (by omega) (.int .i64 (uS W e j i))
             have hY8 := hY7.other (b := N) (i := m) (by omega) (.int .i64 (uS W e j i))
             have H8 := Lib.hid (And.intro hF8 (And.intro hR8 (And.intro hB8 (And.intro hE8 (And.intro hN8 hY8)))))
             clear hF7 hR7 hB7 hE7 hN7 hY7 hF8 hR8 hB8 hE8 hN8 hY8
             go_wp2_with fail
             refine (HPL.out _).mono ?_
             rintro e' w9 ⟨rfl, rfl⟩
             go_wp2_with fail
             obtain ⟨hF, hR, hB, hE, hN, hY⟩ := H8.out
             clear H8 hc hf
             generalize World.setCell _ _ _ = w10 at *
             have HX := Lib.hid (show nexW W e j (i + 1) = takF (nexW W e j i) j i (uS W e j i) 48 from rfl)
             have HXH := Lib.hid (show (h2 || dH W e j || nexH W e j (i + 1)) = (h2 || dH W e j || nexH W e j i || uSH W e j i || anyN (takH (nexW W e j i) j i (uS W e j i)) 48) by
              rw [nexH]; simp only [Bool.or_assoc])
             have hF : FlW p o (h2 || dH W e j || nexH W e j i || uSH W e j i || anyN (takH (nexW W e j i) j i (uS W e j i)) 0) w w10 := flag_is (by show _ = (_ || false); rw [Bool.or_false]) hF
             have hB : Blk w10 B (rowA 1152 (takF (nexW W e j i) j i (uS W e j i) 0)) 199 := by rw [takF_zero]; exact hB
             generalize nexW W e j i = X at *
             generalize uS W e j i = v at *
             generalize (h2 || dH W e j || nexH W e j i || uSH W e j i) = h5 at *
             go_loopw [26] (fun k' wr => ∃ k : Nat, k ≤ 48 ∧ k' = .int .i64 k ∧ FlW p o (h5 || anyN (takH X j i v) k) w wr ∧ Blk wr (w.heap.size + 2) (rowA 300 fun _ => 0) 93 ∧ Blk wr B (rowA 1152 (takF X j i v k)) 199 ∧ Blk wr (B + 1) (rowA 48 e) 166 ∧ Blk wr N (rowA 300 (outI W e O j (i + 1))) 93 ∧ Blk wr Y (rowA 48 (yF W e j)) 166) (fun k' _ => 48 - (intOf k').toNat)
             case atStart => exact ⟨0, by omega, rfl, hF, hR, hB, hE, hN, hY⟩
             case round =>
              clear hF hR hB hE hN hY
              obtain ⟨k, hk, rfl, hF, hR, hB, hE, hN, hY⟩ := hrel
              have fr := (hF.fl fl).drew
              by_cases hlk : k < 48
              ·have hlkI : (k : Int) < 48 := by omega
               have hk0 : (0 : Int) ≤ (k : Int) := by omega
               have c1 := hB.cell (i * 48 + k)
               rw [rowA_get _ (by omega), show takF X j i v k (i * 48 + k) = X (48 * i + k) by rw [Nat.mul_comm i 48]; exact takF_self X j i v k] at c1
               have c2 := hB.cell (j * 48 + k)
               rw [rowA_get _ (by omega), show takF X j i v k (j * 48 + k) = X (48 * j + k) by rw [Nat.mul_comm j 48]; exact takF_row X hij v (by omega)] at c2
               have g1 := hB.free (i * 48 + k)
               have HN := Lib.hid (show upd (takF X j i v k) (i * 48 + k) (subv (X (48 * i + k)) (mulv v (X (48 * j + k)))) = takF X j i v (k + 1) by rw [Nat.mul_comm i 48]; exact takF_next X j i v k)
               have HA := Lib.hid (show (h5 || anyN (takH X j i v) (k + 1)) = (h5 || anyN (takH X j i v) k || mulh v (X (48 * j + k)) || subh (X (48 * i + k)) (mulv v (X (48 * j + k)))) by
                rw [show anyN (takH X j i v) (k + 1) = (anyN (takH X j i v) k || (mulh v (X (48 * j + k)) || subh (X (48 * i + k)) (mulv v (X (48 * j + k))))) from rfl]
                simp only [Bool.or_assoc])
               have hbr := hB.lt
               have H := Lib.hid (And.intro hF (And.intro hR (And.intro hB (And.intro hE (And.intro hN hY)))))
               clear hF hR hB hE hN hY
               go_wp2_with fail
               go_region_with (first
                | (go_at_call 103; refine (qm_mulv p o v (X (48 * j + k)) _ _ fr).mono ?_; rintro e' w11 ⟨rfl, k6⟩; have c6 := (k6.cell (b := B) (i := i * 48 + k) hbr (.inl (by omega))).trans c1; have f6 := k6.fl fr; have g6 := (k6.frozen (b := B) (i := i * 48 + k) hbr).trans g1; have s6 := Nat.lt_of_lt_of_le hbr k6.size)
                | (go_at_call 145; refine (qsub_subv p o (X (48 * i + k)) (mulv v (X (48 * j + k))) _ _ f6).mono ?_; rintro e' w12 ⟨rfl, k7⟩; have c7 := (k7.cell (b := B) (i := i * 48 + k) s6 (.inl (by omega))).trans c6; have g7 := (k7.frozen (b := B) (i := i * 48 + k) s6).trans g6))
               all_goals
                obtain ⟨hF, hR, hB, hE, hN, hY⟩ := H.out
                have hF6 := flag_is HA.out.symm (((hF.drew.trans k6).trans k7).other (b := B) (i := i * 48 + k) (by omega) (.int .i64 (subv (X (48 * i + k)) (mulv v (X (48 * j + k))))))
                have hR6 := ((hR.drew.flag (by omega) k6).flag (by omega) k7).other (b := B) (i := i * 48 + k) (by omega) (.int .i64 (subv (X (48 * i + k)) (mulv v (X (48 * j + k)))))
                have hE6 := ((hE.drew.flag (by omega) k6).flag (by omega) k7).other (b := B) (i := i * 48 + k) (by omega) (.int .i64 (subv (X (48 * i + k)) (mulv v (X (48 * j + k)))))
                have hN6 := ((hN.drew.flag (by omega) k6).flag (by omega) k7).other (b := B) (i := i * 48 + k) (by omega) (.int .i64 (subv (X (48 * i + k)) (mulv v (X (48 * j + k)))))
                have hY6 := ((hY.drew.flag (by omega) k6).flag (by omega) k7).other (b := B) (i := i * 48 + k) (by omega) (.int .i64 (subv (X (48 * i + k)) (mulv v (X (48 * j + k)))))
                have hB6 := ((hB.drew.flag (by omega) k6).flag (by omega) k7).setI (k := i * 48 + k) (by omega) (subv (X (48 * i + k)) (mulv v (X (48 * j + k))))
                rw [HN.out] at hB6
                have H6 := Lib.hid (And.intro hF6 (And.intro hR6 (And.intro hB6 (And.intro hE6 (And.intro hN6 hY6)))))
                clear hF6 hR6 hB6 hE6 hN6 hY6 hF hR hB hE hN hY H k6 k7 c6 c7 g6 g7 f6 s6
                go_wp2_with fail
                go_roundw
                case rel => first
                 | exact ⟨k + 1, by omega, by go_num, H6.out.1, H6.out.2.1, H6.out.2.2.1, H6.out.2.2.2.1, H6.out.2.2.2.2.1, H6.out.2.2.2.2.2⟩
                 | exact ⟨_, _, _, _, _, _, _, _, _, _, _, _, _, _, _, _, _, _, _, _, _, _, _, _, _, _, _, _, ⟨k + 1, by omega, by go_num, H6.out.1, H6.out.2.1, H6.out.2.2.1, H6.out.2.2.2.1, H6.out.2.2.2.2.1, H6.out.2.2.2.2.2⟩, rfl⟩
                case measure => simp [intOf]; omega
              ·obtain rfl : k = 48 := by omega
               clear hlk hk fr
               rw [← HX.out] at hB
               have hF6 := flag_is HXH.out.symm hF
               go_wp2_with fail
               go_roundw
               case rel => first
                | exact ⟨i + 1, by omega, by go_num, hF6, hR, hB, hE, hN, hY⟩
                | exact ⟨_, _, _, _, _, _, _, _, _, _, _, _, _, _, _, _, _, _, _, _, _, _, _, _, _, _, _, _, _, _, _, _, _, _, _, _, _, _, _, _, _, _, _, _, _, _, _, _, _, _, _, _, _, ⟨i + 1, by omega, by go_num, hF6, hR, hB, hE, hN, hY⟩, rfl⟩
               case measure => simp [intOf]; omega
            ·obtain rfl : i = j := by omega
             have hnij : ¬ (i : Int) < (i : Int) := by omega
             clear hij hi
             have hF9 := flag_is HT.out.symm (flag_is (Bool.or_assoc _ _ _) hF)
             rw [← HW.out] at hB
             rw [← HO.out] at hN
             go_wp2_with fail
             go_roundw
             case rel => first
              | exact ⟨n + 1, by omega, by congr 1; omega, hF9, hR, hB, hE, hN⟩
              | exact ⟨_, _, _, _, _, _, _, _, _, _, _, _, _, _, _, _, _, _, _, _, _, _, _, _, _, _, _, _, _, _, _, _, _, _, _, _, _, _, _, _, _, _, _, _, _, _, _, _, _, _, _, _, _, _, _, _, _, _, _, _, _, _, _, _, _, _, _, _, _, _, _, _, _, _, _, _, _, _, _, _, _, _, _, _, _, _, _, _, _, _, _, _, _, _, _, ⟨n + 1, by omega, by congr 1; omega, hF9, hR, hB, hE, hN⟩, rfl⟩
             case measure => simp only [intOf]; omega
        ·obtain rfl : n = 24 := by omega
         clear hlt hn hB hE
         rw [show (23 - ((24 : Nat) : Int)) = -1 from by decide]
         have HS := HS
         have HH := HH
         generalize stO V e 24 = out at *
         generalize (h1 || stH V e 24) = hh at *
         go_wp2_with (first
          | ((with_reducible refine row_load 93 (.tmp 19) ?_ ?_ N 300 out 93 ?_ hN _ Try.underlying93 ?_ covSize ?_); rfl; rfl; rfl; rfl)
          | ((with_reducible refine row_store 93 (.tmp 8) (.tmp 205) ?_ ?_ (w.heap.size + 2) 300 out (fun _ => 0) 93 ?_ ?_ hR covSize ?_); rfl; rfl; rfl; rfl))
         refine bodyPost_ret (v := .agg (rowA 300 out)) (results_row rfl _ _ (w.heap.size + 2) 300 _ _ _ rfl hR.setRow Try.underlying93 rfl covSize) rfl ⟨?_, ?_⟩
         ·rw [HS.out]
         ·rw [HH.out]; exact hF.row (by omega) _
end Go.Proofs.Ytfkeljolpcbbkaa
