/- A ring of a size keeps the latest. -/
import Derived.Test.YtobdojccholkbaaRgLa
namespace Go.Proofs.Ytobdojccholkbaa.Rg
open Go.RowKit
theorem held_cells {w : World} {A : Nat} {v : Value} {b : Ring} (h : RBuf w A v b) : ∃ av cv, v = .slice av b.l.length cv ∧ ∀ j, j < b.l.length → ∃ g o, av = some ⟨g, o, none⟩ ∧ g < w.heap.size ∧ Ints w g (o + j * 9) 9 (fn (b.l.getD j [])) := by
  rcases rsome h.row with ⟨rfl, h0⟩ | ⟨g, o, c, rfl, hg, _, hi⟩
  · exact ⟨none, 0, by rw [h0]; rfl, fun j hj => by rw [h0] at hj; simp at hj⟩
  · refine ⟨_, c, rfl, fun j hj => ⟨g, o, rfl, hg, ⟨fun i hi' => ?_⟩⟩⟩
    have := hi.at_ (9 * j + i) (by omega)
    rw [fl_at b.l j i hi'] at this
    rw [Nat.mul_comm j 9, Nat.add_assoc]
    exact this
set_option maxRecDepth 100000 in
set_option maxHeartbeats 32000000 in
theorem latest_walk (a : Int) (ad : Option Addr) (n c : Nat) (l : List Sam) (w : World) (hl : Arg 9 w ad n l) (hr : ∀ y ∈ l, ∀ a ∈ y, -9223372036854775808 ≤ a ∧ a ≤ 9223372036854775807) : Calls Try.prog 6 #[.int .i64 a, .slice ad n c] w fun e w' => e = .returned (.bool true) ∧ Below w.heap.size w w' := by
  have hbig := hl.big
  go_enter Try.func6, Try.ntmps6
  go_wp2_with fail
  refine (awake_any w).mono ?_
  rintro e w0 ⟨rfl, k0⟩
  have k0 := Lib.hid k0
  have HL := Lib.hid (hl.below k0.out)
  clear hl
  by_cases ha : a < 1 ∨ 64 < a
  · go_wp2_with fail
    refine (new_bad a w0 ha).mono ?_
    rintro e w1 ⟨rfl, rfl⟩
    clear ha
    go_wp2_with fail
    go_ret
    exact ⟨rfl, k0.out⟩
  · obtain ⟨z, rfl⟩ : ∃ z : Nat, a = (z : Int) := ⟨a.toNat, by omega⟩
    have hz1 : 1 ≤ z := by omega
    have hz2 : z ≤ 64 := by omega
    clear ha
    go_wp2_with fail
    refine (two_new (nothing w0) z hz1 hz2).mono ?_
    rintro e w1 ⟨rfl, s1⟩
    have s1 := Lib.hid s1.swap
    have HZ := Lib.hid (And.intro hz1 hz2)
    have HR := Lib.hid hr
    clear hz1 hz2 hr
    by_cases hn : n ≤ 150
    · have e1 : ¬ (150 : Int) < (n : Int) := by omega
      go_wp2_with fail
      refine (two_rnew s1.out 192 192 rfl).mono ?_
      rintro e w2 ⟨rfl, s2⟩
      have s2 := Lib.hid s2
      clear s1
      go_wp2_with fail
      generalize w0.heap.size = A1 at *
      generalize w1.heap.size = A2 at *
      go_loopw [8] (fun i wr => ∃ k : Nat, i = .int .i64 k ∧ k ≤ n ∧ Hid (Two w0 (QB A2 ((Ring.new 192).puts (l.take k))) (PB A1 ((Ring.new z).puts (l.take k))) (foot A2) (foot A1) [] wr)) (fun i _ => n - (intOf i).toNat)
      case atStart => exact ⟨0, rfl, Nat.zero_le _, s2⟩
      case round =>
        clear s2
        obtain ⟨k, rfl, hk, s⟩ := hrel
        have hlk : (l.take k).length = k := by rw [List.length_take, HL.out.len]; omega
        have hfit := (Fits.new 192).puts (l.take k)
        have hfiz := (Fits.new z).puts (l.take k)
        rw [hlk, Nat.zero_add] at hfit hfiz
        have HF := Lib.hid (And.intro hfit hfiz)
        have hkI0 : (0 : Int) ≤ (k : Int) := by omega
        clear hfit hfiz hlk
        by_cases hlt : k < n
        · have hltI : (k : Int) < (n : Int) := by omega
          obtain ⟨gg, oo, y, rfl, hy, hy9, hgw, hI0⟩ := HL.out.one hlt
          have hI := hI0.below s.out.K hgw
          have HI0 := Lib.hid hI0
          clear hI0
          have HY := Lib.hid hy
          clear hy
          go_wp2_with ((with_reducible refine mid_load 30 (.tmp 36) ?_ ?_ gg (oo + k * 9) 9 (fn y) ?_ hI _ Try.underlying30 ?_ samSize ?_); rfl; rfl; rfl; rfl)
          refine (two_put s.out.swap y (by rw [HF.out.2.cnt]; omega) hy9 (by rw [HF.out.2.size]; exact HZ.out.1) (by rw [HF.out.2.size]; have := HZ.out.2; omega) HF.out.2.len).mono ?_
          rintro e w3 ⟨rfl, s3, _⟩
          have hI2 := HI0.out.below s3.K hgw
          have s3 := Lib.hid s3.swap
          clear hI
          go_wp2_with ((with_reducible refine mid_load 30 (.tmp 42) ?_ ?_ gg (oo + k * 9) 9 (fn y) ?_ hI2 _ Try.underlying30 ?_ samSize ?_); rfl; rfl; rfl; rfl)
          refine (two_rput s3.out y (by rw [HF.out.1.cnt]; omega) hy9 (by rw [HF.out.1.size]; omega) (by rw [HF.out.1.size]; omega) HF.out.1.len).mono ?_
          rintro e w4 ⟨rfl, s4, _⟩
          rw [← puts_snoc, ← puts_snoc, HY.out, ← take_snoc l k (by rw [HL.out.len]; exact hlt)] at s4
          have s4 := Lib.hid s4
          clear s3 s hI2
          go_wp2_with fail
          go_roundw
          case rel => exact ⟨k + 1, by go_num, by omega, s4⟩
          case measure => simp [intOf]; omega
        · obtain rfl : k = n := by omega
          have htk : l.take k = l := List.take_of_length_le (by rw [HL.out.len]; omega)
          rw [htk] at s HF
          have hlat := latest_of z k l HL.out.len hn HR.out
          generalize (Ring.new z).puts l = R at *
          generalize (Ring.new 192).puts l = Q at *
          have hm64 : R.l.length ≤ 64 := by have := HF.out.2.len; rw [HF.out.2.size] at this; have := HZ.out.2; omega
          have hN : Q.l.length ≤ 192 := by have := HF.out.1.len; rw [HF.out.1.size] at this; exact this
          have hmN : R.l.length = Q.l.length - (Q.l.length - z) := by rw [hlat.1, List.length_drop]
          have HLat := Lib.hid hlat
          clear hlat
          go_wp2_with fail
          refine (two_pop s.out.swap 9223372036854775807 (by rw [HF.out.2.cnt]; omega)).mono ?_
          rw [HLat.out.2, List.take_length]
          rintro e w3 ⟨a1, c1, rfl, h1, f1, s3, _⟩
          obtain ⟨_, v, _, b1, _⟩ := s3.ex
          obtain ⟨av, cv, rfl, hcells⟩ := held_cells b1
          have hA2 := b1.blk.lt
          have hcell : w3.cell? ⟨A2, 1, none⟩ = some (.slice av Q.l.length cv) := b1.blk.cell 1
          have K3 := Lib.hid s3.K
          have HC := Lib.hid hcells
          have H1 := Lib.hid h1
          clear h1 f1 s s3 b1 hcells
          obtain ⟨d, hd⟩ : ∃ d, d = Q.l.length - R.l.length := ⟨_, rfl⟩
          have hsub : IntKind.i64.wrap ((Q.l.length : Int) - (R.l.length : Int)) = (d : Int) := by rw [IntKind.wrap_i64]; omega
          have hget : ∀ j, j < R.l.length → R.l.getD j [] = Q.l.getD (d + j) [] := by
            intro j hj
            rw [HLat.out.1]
            simp only [List.getD_eq_getElem?_getD, List.getElem?_drop]
            rw [show Q.l.length - z = d by omega]
          have hHG := Lib.hid hget
          have q1 : ¬ (z : Int) < (R.l.length : Int) := by omega
          have q2 : ¬ (d : Int) < 0 := by omega
          have q3 : (R.l.length : Int) < (z : Int) → ¬ (0 : Int) < (d : Int) := by omega
          have hdN : d + R.l.length = Q.l.length := by omega
          have hm63 : R.l.length ≤ 9223372036854775807 := by omega
          clear hget hmN
          generalize hm : R.l.length = m at *
          generalize Q.l.length = N at *
          have HD := Lib.hid hdN
          have HM := Lib.hid hm
          clear hm hdN hd
          go_wp2_with fail
          all_goals
            try clear hsub
            try clear q1
            try clear q2
            try clear q3
            go_loopw [11] (fun i wr => ∃ j : Nat, i = .int .i64 j ∧ j ≤ m ∧ Hid (Below w3.heap.size w3 wr)) (fun i _ => m - (intOf i).toNat)
            case atStart => exact ⟨0, rfl, Nat.zero_le _, Lib.hid (Below.refl _ _)⟩
            case round =>
              obtain ⟨j, rfl, hj, KW⟩ := hrel
              by_cases hjm : j < m
              · have hjI : (j : Int) < (m : Int) := by omega
                have hj0 : (0 : Int) ≤ (j : Int) := by omega
                obtain ⟨g3, c5, hv3, t3⟩ := row_cell (H1.out.keep (.of [] KW.out) (by simp)) (i := j) (by rw [HM.out]; exact hjm)
                injection hv3 with e3 e3b e3c
                clear e3b e3c
                subst e3
                obtain ⟨e, hej⟩ : ∃ e, e = d + j := ⟨_, rfl⟩
                have heN : e < N := by have := HD.out; omega
                have heI : (e : Int) < (N : Int) := by omega
                have he0 : (0 : Int) ≤ (e : Int) := by omega
                have hadd : IntKind.i64.wrap ((d : Int) + (j : Int)) = (e : Int) := by rw [IntKind.wrap_i64]; omega
                obtain ⟨g4, o4, e4, hg4, i4'⟩ := HC.out e heN
                subst e4
                have hy := hHG.out j hjm
                rw [← hej] at hy
                rw [← hy] at i4'
                have i4 := i4'.below KW.out hg4
                have c0 : wr.cell? ⟨A2, 1, none⟩ = some (.slice (some ⟨g4, o4, none⟩) N cv) := (cellAt KW.out hA2 (i := 1)).trans hcell
                generalize R.l.getD j [] = y at *
                have i3 : Ints wr g3 (j * 9) 9 (fn y) := ⟨fun i hi => t3 i hi⟩
                clear t3 i4' hy hej
                obtain ⟨T, N', hO⟩ := opS
                have l1 := hO.load _ g3 (j * 9) (fn y) i3.drew
                have l2 := hO.load _ g4 (o4 + e * 9) (fn y) i4.drew
                have c0' : wr.drew.cell? ⟨A2, 1, none⟩ = some (.slice (some ⟨g4, o4, none⟩) N cv) := c0
                have he : eqB 9 (fn y) (fn y) = true := eqB_same 9 (fn y)
                have sa := hO.agg
                have ss := hO.size
                have sl := hO.len
                have sn := hO.neq
                have sg := hO.guard
                have se := hO.eqv
                go_upto_region 19 with (fail)
                rw [show Op.load 30 = Op.load T by rw [hO.is], show Op.binOp BinOp.neq 30 = Op.binOp BinOp.neq T by rw [hO.is]]
                clear hO i3 i4 c0
                go_region_held3 (fun w' => w'.cell? ⟨A2, 1, none⟩ = some (.slice (some ⟨g4, o4, none⟩) N cv) ∧ Sem.run Try.prog (loadCellsFrom ⟨g3, j * 9, none⟩ 0 N' #[]) w' = .ok (rowA 9 (fn y)) w' ∧ Sem.run Try.prog (loadCellsFrom ⟨g4, o4 + e * 9, none⟩ 0 N' #[]) w' = .ok (rowA 9 (fn y)) w')
                  ((first | exact ⟨c0', l1, l2⟩))
                  (first | (go_at_call 13; skip))
                clear l1 l2 sa ss sl sn sg se he c0'
                go_wp2_with fail
                go_roundw
                case rel => exact ⟨j + 1, by go_num, by omega, Lib.hid KW.out.drew⟩
                case measure => simp [intOf]; omega
              · obtain rfl : j = m := by omega
                go_wp2_with fail
                go_ret
                exact ⟨rfl, (k0.out.trans (K3.out.mono k0.out.size)).trans (KW.out.mono (Nat.le_trans k0.out.size K3.out.size))⟩
    · have e1 : (150 : Int) < (n : Int) := by omega
      go_wp2_with fail
      go_ret
      exact ⟨rfl, k0.out.trans (s1.out.K.mono k0.out.size)⟩
end Go.Proofs.Ytobdojccholkbaa.Rg
