/- What comes out at a time. -/
import Derived.Test.YtobdojccholkbaaRgTm
namespace Go.Proofs.Ytobdojccholkbaa.Rg
open Go.RowKit
set_option maxRecDepth 100000 in
set_option maxHeartbeats 32000000 in
theorem lost_any (ad : Option Addr) (n c : Nat) (l : List Sam) (w : World) (hl : Arg 9 w ad n l) (hn : n ≤ 60) : Calls Try.prog 23 #[.slice ad n c] w fun e w' => e = .returned (.int .i64 (lostN l : Nat)) ∧ w' = w := by
  have hbig := hl.big
  have HL := Lib.hid hl
  clear hl
  go_enter Try.func23, Try.ntmps23
  go_wp2_with fail
  go_loopw [3, 4] (fun m i wr => ∃ k : Nat, i = .int .i64 k ∧ k ≤ n ∧ m = .int .i64 (lostN (l.take k) : Nat) ∧ Hid (wr = w)) (fun m i _ => n - (intOf i).toNat)
  case atStart => exact ⟨0, rfl, Nat.zero_le _, rfl, Lib.hid rfl⟩
  case round =>
    obtain ⟨k, rfl, hk, rfl, hw⟩ := hrel
    obtain rfl := hw.out
    clear hw
    have hkI0 : (0 : Int) ≤ (k : Int) := by omega
    have hN : lostN (l.take k) ≤ 60 := by have := lostN_le (l.take k); rw [List.length_take] at this; omega
    by_cases hlt : k < n
    · have hltI : (k : Int) < (n : Int) := by omega
      have hs := lost_snoc l k (by rw [HL.out.len]; exact hlt)
      obtain ⟨gg, oo, y, rfl, hy, hy9, hgw, hI0⟩ := HL.out.one hlt
      rw [← hy] at hs
      have c0 := hI0.at_ 0 (by omega)
      rw [Nat.add_zero] at c0
      have HS := Lib.hid hs
      clear hs hy hI0
      generalize lostN (l.take k) = M at *
      by_cases hm : fn y 0 = -9223372036854775808
      · rw [hm] at c0
        have hw1 : IntKind.i64.wrap ((M : Int) + 1) = ((M + 1 : Nat) : Int) := by rw [IntKind.wrap_i64]; omega
        have HS' : lostN (l.take (k + 1)) = M + 1 := by rw [HS.out, if_pos hm]
        have HE := Lib.hid HS'
        clear HS' HS hm
        go_wp2_with fail
        go_roundw
        case rel => exact ⟨k + 1, by go_num, by omega, by rw [HE.out]; go_num, by first | exact Lib.hid rfl | trivial⟩
        case measure => simp [intOf]; omega
      · have HS' : lostN (l.take (k + 1)) = M := by rw [HS.out, if_neg hm, Nat.add_zero]
        have HE := Lib.hid HS'
        clear HS' HS
        go_wp2_with fail
        go_roundw
        case rel => exact ⟨k + 1, by go_num, by omega, by rw [HE.out], by first | exact Lib.hid rfl | trivial⟩
        case measure => simp [intOf]; omega
    · obtain rfl : k = n := by omega
      have htk : l.take k = l := List.take_of_length_le (by rw [HL.out.len]; omega)
      rw [htk]
      clear htk
      go_wp2_with fail
      go_ret
      exact ⟨rfl, rfl⟩
set_option maxRecDepth 100000 in
set_option maxHeartbeats 32000000 in
theorem times_walk (ad : Option Addr) (n c : Nat) (l : List Sam) (at_ : Option Addr) (q d : Nat) (ts : List Sam) (w : World) (hl : Arg 9 w ad n l) (hr : ∀ y ∈ l, ∀ a ∈ y, -9223372036854775808 ≤ a ∧ a ≤ 9223372036854775807) (ht : Arg 1 w at_ q ts) : Calls Try.prog 7 #[.slice ad n c, .slice at_ q d] w fun e w' => e = .returned (.bool true) ∧ Below w.heap.size w w' := by
  have hbig := hl.big
  have hbiq := ht.big
  go_enter Try.func7, Try.ntmps7
  go_wp2_with fail
  refine (awake_any w).mono ?_
  rintro e w0 ⟨rfl, k0⟩
  have k0 := Lib.hid k0
  have HL := Lib.hid (hl.below k0.out)
  have HT := Lib.hid (ht.below k0.out)
  have HR := Lib.hid hr
  clear hl ht hr
  by_cases hn : n ≤ 60
  · have e1 : ¬ (60 : Int) < (n : Int) := by omega
    by_cases hq : q ≤ 10
    · have e2 : ¬ (10 : Int) < (q : Int) := by omega
      go_wp2_with fail
      refine (two_new (nothing w0) 64 (by omega) (by omega)).mono ?_
      rintro e w1 ⟨rfl, s1⟩
      have s1 := Lib.hid s1
      go_wp2_with fail
      generalize w0.heap.size = A1 at *
      go_loopw [7] (fun i wr => ∃ k : Nat, i = .int .i64 k ∧ k ≤ n ∧ Hid (Two w0 (PB A1 ((Ring.new 64).puts (l.take k))) NB (foot A1) none0 [] wr)) (fun i _ => n - (intOf i).toNat)
      case atStart => exact ⟨0, rfl, Nat.zero_le _, s1⟩
      case round =>
        clear s1
        obtain ⟨k, rfl, hk, s⟩ := hrel
        have hlk : (l.take k).length = k := by rw [List.length_take, HL.out.len]; omega
        have hfit := (Fits.new 64).puts (l.take k)
        rw [hlk, Nat.zero_add] at hfit
        have HF := Lib.hid hfit
        have hkI0 : (0 : Int) ≤ (k : Int) := by omega
        clear hfit hlk
        by_cases hlt : k < n
        · have hltI : (k : Int) < (n : Int) := by omega
          obtain ⟨gg, oo, y, rfl, hy, hy9, hgw, hI0⟩ := HL.out.one hlt
          have hI := hI0.below s.out.K hgw
          have HY := Lib.hid hy
          clear hy hI0
          go_wp2_with ((with_reducible refine mid_load 30 (.tmp 38) ?_ ?_ gg (oo + k * 9) 9 (fn y) ?_ hI _ Try.underlying30 ?_ samSize ?_); rfl; rfl; rfl; rfl)
          refine (two_put s.out y (by rw [HF.out.cnt]; omega) hy9 (by rw [HF.out.size]; omega) (by rw [HF.out.size]; omega) HF.out.len).mono ?_
          rintro e w3 ⟨rfl, s3, _⟩
          rw [← puts_snoc, HY.out, ← take_snoc l k (by rw [HL.out.len]; exact hlt)] at s3
          have s3 := Lib.hid s3
          clear s hI
          go_wp2_with fail
          go_roundw
          case rel => exact ⟨k + 1, by go_num, by omega, s3⟩
          case measure => simp [intOf]; omega
        · obtain rfl : k = n := by omega
          have htk : l.take k = l := List.take_of_length_le (by rw [HL.out.len]; omega)
          rw [htk] at s
          have M0 := Lib.hid (midst_new l k HL.out.len HR.out)
          generalize (Ring.new 64).puts l = R at *
          clear HF htk
          go_wp2_with fail
          go_loopw [8, 9] (fun o i wr => ∃ (kk oo : Nat) (b : Ring) (X : List Nat), i = .int .i64 kk ∧ o = .int .i64 oo ∧ kk ≤ q ∧ Hid (Midst b k kk oo (lostN l)) ∧ Hid (Two w0 (PB A1 b) NB (foot A1) none0 X wr)) (fun o i _ => q - (intOf i).toNat)
          case atStart => exact ⟨0, 0, R, [], rfl, rfl, Nat.zero_le _, M0, s⟩
          case round =>
            clear s M0 R
            obtain ⟨kk, oo, b, X, rfl, rfl, hkq, M, s⟩ := hrel
            have hkk0 : (0 : Int) ≤ (kk : Int) := by omega
            by_cases hlt : kk < q
            · have hltI : (kk : Int) < (q : Int) := by omega
              obtain ⟨gt, ot, y, rfl, hy, hy1, hgt, hI0⟩ := HT.out.one hlt
              have c0 := hI0.at_ 0 (by omega)
              rw [Nat.add_zero, Nat.mul_one] at c0
              clear hy hI0 hy1
              have C0 : Hid (∀ W, Below w0.heap.size w0 W → W.cell? ⟨gt, ot + kk, none⟩ = some (.int .i64 (fn y 0))) := Lib.hid fun W K => (cellAt K hgt (i := ot + kk)).trans c0
              generalize fn y 0 = u at *
              clear c0
              have c1 := C0.out _ s.out.K
              go_wp2_with fail
              refine (two_hor s.out).mono ?_
              rintro e w3 ⟨rfl, rfl⟩
              go_wp2_with fail
              refine (two_pop s.out u (by rw [M.out.cnt]; omega)).mono ?_
              rintro e w4 ⟨a1, c1', rfl, h1, f1, s3, _⟩
              obtain ⟨hsrt, hnine, _, hsum⟩ := two_buf s.out
              have hM := M.out.next hsrt hnine u
              generalize hm : (b.l.take (come u b.l)).length = m at *
              have hm64 : m ≤ 64 := by rw [← hm, List.length_take]; have := M.out.len; omega
              have hoo : (oo : Int) + (m : Int) ≤ 1000 := by have := M.out.out; have := M.out.cnt; omega
              have hoo0 : (0 : Int) ≤ (oo : Int) := by omega
              have hw1 : IntKind.i64.wrap ((oo : Int) + (m : Int)) = ((oo + m : Nat) : Int) := by rw [IntKind.wrap_i64]; omega
              have HI := Lib.hid M.out.high
              have HM := Lib.hid hM
              have Hm := Lib.hid hm
              have H1 := Lib.hid h1
              have s3 := Lib.hid s3
              have hcn : b.cIn < 1000000 := by rw [M.out.cnt]; omega
              have hsz := Lib.hid M.out.size
              have hin : ∀ j, j < m → b.hor < fn (b.l.getD j []) 0 ∧ fn (b.l.getD j []) 0 ≤ u ∧ (b.l.take (come u b.l)).getD j [] = b.l.getD j [] := by
                intro j hj
                rw [← hm, List.length_take] at hj
                have h5 : j < b.l.length := by omega
                refine ⟨?_, come_in u b.l j (by omega), ?_⟩
                · simp only [List.getD_eq_getElem?_getD, List.getElem?_eq_getElem h5, Option.getD_some]
                  exact M.out.high _ (List.getElem_mem _)
                · simp only [List.getD_eq_getElem?_getD]
                  rw [List.getElem?_take_of_lt (by omega)]
              have HIN := Lib.hid hin
              have HC := Lib.hid hcn
              clear h1 f1 hsrt hnine hsum hM hm c1 hin hcn
              go_wp2_with fail
              clear hw1 hoo
              go_loopw [12] (fun i wr => ∃ j : Nat, i = .int .i64 j ∧ j ≤ m ∧ Hid (Below w4.heap.size w4 wr)) (fun i _ => m - (intOf i).toNat)
              case atStart => exact ⟨0, rfl, Nat.zero_le _, Lib.hid (Below.refl _ _)⟩
              case round =>
                obtain ⟨j, rfl, hj, KW⟩ := hrel
                by_cases hjm : j < m
                · have hjI : (j : Int) < (m : Int) := by omega
                  have hj0 : (0 : Int) ≤ (j : Int) := by omega
                  obtain ⟨g3, c5, hv3, t3⟩ := row_cell (H1.out.keep (.of [] KW.out) (by simp)) (i := j) (by rw [Hm.out]; exact hjm)
                  injection hv3 with e3 e3b e3c
                  clear e3b e3c
                  subst e3
                  obtain ⟨h5, h6, h7⟩ := HIN.out j hjm
                  rw [h7] at t3
                  have c3 := t3 0 (by omega)
                  rw [Nat.add_zero] at c3
                  have c2 := C0.out wr (s3.out.call KW.out).K
                  generalize fn (b.l.getD j []) 0 = x at *
                  clear t3 h7
                  have c3' : wr.drew.cell? ⟨g3, j * 9, none⟩ = some (.int .i64 x) := c3
                  have c2' : wr.drew.cell? ⟨gt, ot + kk, none⟩ = some (.int .i64 u) := c2
                  have d1 : decide (x ≤ b.hor) = false := by simp; omega
                  have d2 : decide (u < x) = false := by simp; omega
                  go_upto_region 22 with (fail)
                  clear c3 c2
                  go_region_held3 (fun w' => w'.cell? ⟨g3, j * 9, none⟩ = some (.int .i64 x) ∧ w'.cell? ⟨gt, ot + kk, none⟩ = some (.int .i64 u))
                    ((first | exact ⟨c3', c2'⟩))
                    (first | (go_at_call 23; skip))
                  clear c3' c2' d1 d2 h5 h6
                  go_wp2_with fail
                  go_roundw
                  case rel => exact ⟨j + 1, by go_num, by omega, Lib.hid KW.out.drew⟩
                  case measure => simp [intOf]; omega
                · obtain rfl : j = m := by omega
                  have s4 := Lib.hid (s3.out.call KW.out)
                  clear H1 s3 HIN
                  go_upto_region 24 with (fail)
                  obtain ⟨H, hH⟩ : ∃ H, H = (b.pop u).hor := ⟨_, rfl⟩
                  have d1 : decide (H < b.hor) = false := by rw [hH]; show decide (max b.hor u < b.hor) = false; simp; omega
                  have d2 : decide (H < u) = false := by rw [hH]; show decide (max b.hor u < u) = false; simp; omega
                  have c2' := C0.out wr.drew s4.out.drew.K
                  have hhor := two_hor s4.out.drew
                  rw [← hH] at hhor
                  have hhor := Lib.hid hhor
                  have hput := two_putL s4.out.drew H (b.pop u).lated false HC.out (by rw [show (b.pop u).size = b.size from rfl, hsz.out]; omega) (by rw [show (b.pop u).size = b.size from rfl, hsz.out]; omega) (by rw [show (b.pop u).size = b.size from rfl, hsz.out]; have := HM.out.len; exact this) (by rw [hH]; exact put_late _) (by rw [hH]; exact putR_late _)
                  have hput := Lib.hid hput
                  clear hH
                  go_region_held3 (fun w' => w'.cell? ⟨gt, ot + kk, none⟩ = some (.int .i64 u))
                    ((first | exact c2' | exact j0))
                    (first
                      | (go_at_call 13; refine hhor.out.mono ?_; rintro e w7 ⟨rfl, rfl⟩)
                      | (go_at_call 11; refine hput.out.mono ?_; rintro e w8 ⟨rfl, s8, _⟩; have j0 := C0.out w8 s8.K))
                  have s8 := Lib.hid s8
                  clear c2' j0 d1 d2 hput hhor s4 KW
                  go_wp2_with fail
                  go_roundw
                  case rel => exact ⟨kk + 1, oo + j, _, _, by go_num, by go_num, by omega, HM, s8⟩
                  case measure => simp [intOf]; omega
            · obtain rfl : kk = q := by omega
              obtain ⟨q0, q1, q2, q3, q4⟩ := two_cell s.out.drew
              have hN : lostN l ≤ 60 := by have := lostN_le l; rw [HL.out.len] at this; omega
              have hlost := Lib.hid (lost_any ad k c l wr.drew (HL.out.below s.out.drew.K) hn)
              have hw2 : IntKind.i64.wrap ((kk : Int) + (lostN l : Int)) = ((lostN l + kk : Nat) : Int) := by rw [IntKind.wrap_i64]; omega
              rw [M.out.out] at q4
              rw [M.out.late] at q1
              clear q0 q2 q3
              generalize lostN l = L at *
              go_upto_region 26 with (fail)
              go_region_held3 (fun w' => w'.cell? ⟨A1, 4, none⟩ = some (.int .i64 (oo : Nat)) ∧ w'.cell? ⟨A1, 1, none⟩ = some (.int .i64 ((L + kk : Nat) : Int)))
                ((first | exact ⟨q4, q1⟩))
                (first
                  | (go_at_call 23; refine hlost.out.mono ?_; rintro e w7 ⟨rfl, rfl⟩))
              clear q4 q1 hw2
              go_wp2_with fail
              go_ret
              exact ⟨rfl, k0.out.trans (s.out.drew.K.mono k0.out.size)⟩
    · have e2 : (10 : Int) < (q : Int) := by omega
      go_wp2_with fail
      go_ret
      exact ⟨rfl, k0.out⟩
  · have e1 : (60 : Int) < (n : Int) := by omega
    go_wp2_with fail
    go_ret
    exact ⟨rfl, k0.out⟩
end Go.Proofs.Ytobdojccholkbaa.Rg
