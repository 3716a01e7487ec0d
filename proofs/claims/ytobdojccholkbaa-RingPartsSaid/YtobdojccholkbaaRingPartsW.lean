/- Samples taken out in two steps. -/
import Derived.Test.YtobdojccholkbaaRgX
namespace Go.Proofs.Ytobdojccholkbaa.Rg
open Go.RowKit
set_option maxRecDepth 100000 in
set_option maxHeartbeats 32000000 in
theorem parts_walk (ad : Option Addr) (n c : Nat) (l : List Sam) (a b : Int) (w : World) (hl : Arg 9 w ad n l) : Calls Try.prog 8 #[.slice ad n c, .int .i64 a, .int .i64 b] w fun e w' => e = .returned (.bool true) ∧ Below w.heap.size w w' := by
  have hbig := hl.big
  go_enter Try.func8, Try.ntmps8
  go_wp2_with fail
  refine (awake_any w).mono ?_
  rintro e w0 ⟨rfl, k0⟩
  have k0 := Lib.hid k0
  have HL := Lib.hid (hl.below k0.out)
  clear hl
  by_cases hn : n ≤ 64
  · by_cases hab : a ≤ b
    · have e1 : ¬ (64 : Int) < (n : Int) := by omega
      have e2 : ¬ b < a := by omega
      go_wp2_with fail
      refine (two_new (nothing w0) 64 (by omega) (by omega)).mono ?_
      rintro e w1 ⟨rfl, s1⟩
      have s1 := Lib.hid s1.swap
      go_wp2_with fail
      refine (two_new s1.out 64 (by omega) (by omega)).mono ?_
      rintro e w2 ⟨rfl, s2⟩
      have s2 := Lib.hid s2
      clear s1
      go_wp2_with fail
      generalize w0.heap.size = A1 at *
      generalize w1.heap.size = A2 at *
      go_loopw [11] (fun i wr => ∃ k : Nat, i = .int .i64 k ∧ k ≤ n ∧ Hid (Two w0 (PB A2 ((Ring.new 64).puts (l.take k))) (PB A1 ((Ring.new 64).puts (l.take k))) (foot A2) (foot A1) [] wr)) (fun i _ => n - (intOf i).toNat)
      case atStart => exact ⟨0, rfl, Nat.zero_le _, s2⟩
      case round =>
        clear s2
        obtain ⟨k, rfl, hk, s⟩ := hrel
        have hlk : (l.take k).length = k := by rw [List.length_take, HL.out.len]; omega
        have hfit := (Fits.new 64).puts (l.take k)
        rw [hlk, Nat.zero_add] at hfit
        have HF := Lib.hid hfit
        have hkI0 : (0 : Int) ≤ (k : Int) := by omega
        clear hfit hlk
        by_cases hlt : k < n
        · have hltI : (k : Int) < (n : Int) := by omega
          obtain ⟨gg, oo, y, rfl, hy, hy9, hgw, hI0⟩ := HL.out.one hlt
          have hI := hI0.below s.out.K hgw
          have HI0 := Lib.hid hI0
          clear hI0
          have HY := Lib.hid hy
          have HLb := Lib.hid HL.out.len
          clear hy
          go_wp2_with ((with_reducible refine mid_load 30 (.tmp 42) ?_ ?_ gg (oo + k * 9) 9 (fn y) ?_ hI _ Try.underlying30 ?_ samSize ?_); rfl; rfl; rfl; rfl)
          refine (two_put s.out.swap y (by rw [HF.out.cnt]; omega) hy9 (by rw [HF.out.size]; omega) (by rw [HF.out.size]; omega) HF.out.len).mono ?_
          rintro e w3 ⟨rfl, s3, _⟩
          have hI2 := HI0.out.below s3.K hgw
          have s3 := Lib.hid s3.swap
          clear hI
          go_wp2_with ((with_reducible refine mid_load 30 (.tmp 48) ?_ ?_ gg (oo + k * 9) 9 (fn y) ?_ hI2 _ Try.underlying30 ?_ samSize ?_); rfl; rfl; rfl; rfl)
          refine (two_put s3.out y (by rw [HF.out.cnt]; omega) hy9 (by rw [HF.out.size]; omega) (by rw [HF.out.size]; omega) HF.out.len).mono ?_
          rintro e w4 ⟨rfl, s4, _⟩
          rw [← puts_snoc, HY.out, ← take_snoc l k (by rw [HL.out.len]; exact hlt)] at s4
          have s4 := Lib.hid s4
          clear s3 s hI2
          go_wp2_with fail
          go_roundw
          case rel => exact ⟨k + 1, by go_num, by omega, s4⟩
          case measure => simp [intOf]; omega
        · obtain rfl : k = n := by omega
          have htk : l.take k = l := List.take_of_length_le (by rw [HL.out.len]; omega)
          rw [htk] at s HF
          generalize (Ring.new 64).puts l = R at *
          have hl64 : R.l.length ≤ 64 := by have := HF.out.len; rw [HF.out.size] at this; exact this
          go_wp2_with fail
          refine (two_pop s.out.swap a (by rw [HF.out.cnt]; omega)).mono ?_
          rintro e w3 ⟨a1, c1, rfl, h1, f1, s3, _⟩
          have hb1 : ∀ q, q ∈ own (.slice a1 (R.l.take (come a R.l)).length c1) → w0.heap.size ≤ q := fun q hq => Nat.le_trans s.out.K.size (f1 q hq)
          generalize hl1 : (R.l.take (come a R.l)).length = n1 at *
          have H1 := Lib.hid (And.intro h1 (And.intro hb1 hl1))
          have s3 := Lib.hid s3
          clear h1 f1 hb1 hl1
          go_wp2_with fail
          refine (two_pop s3.out b (by show R.cIn < 1000000; rw [HF.out.cnt]; omega)).mono ?_
          rintro e w4 ⟨a2, c2, rfl, h2, f2, s4, x4⟩
          have h1 := H1.out.1.same (fun q hq => x4 q (List.mem_append_left _ hq))
          generalize hl2 : (((R.pop a).l).take (come b (R.pop a).l)).length = n2 at *
          have hsz : n1 + n2 < 1000 := by
            have e1 := H1.out.2.2
            have e2 := hl2
            rw [List.length_take] at e1 e2
            have : (R.pop a).l.length ≤ R.l.length := by simp [Ring.pop]
            omega
          obtain ⟨a3, c3, w5, hr, h3, s5⟩ := two_app s4 35 (.slice a1 n1 c1) _ _ n1 n2 H1.out.2.2 hl2 a2 c2 h1 (fun q hq => ⟨H1.out.2.1 q hq, List.mem_append_right _ (List.mem_append_left _ hq)⟩) h2 hsz
          have htt : R.l.take (come a R.l) ++ (R.pop a).l.take (come b (R.pop a).l) = R.l.take (come b R.l) := by
            rw [come_split a b hab R.l, List.take_add]
            rfl
          rw [htt] at h3
          have H3 := Lib.hid h3
          have s5 := Lib.hid s5.swap
          have HS2 := Lib.hid hl2
          clear h1 h2 f2 s4 x4 htt hl2 s3
          go_wp2_with (at_builtin; refine list_appR _ rfl _ _ 35 35 rfl _ _ rfl rfl hr ?_)
          clear hr
          refine (two_pop s5.out b (by rw [HF.out.cnt]; omega)).mono ?_
          rintro e w6 ⟨a4, c4, rfl, h4, f4, s6, x6⟩
          have h3 := H3.out.same (fun q hq => x6 q (List.mem_append_left _ hq))
          have hl3 : n1 + n2 = (R.l.take (come b R.l)).length := by
            have := congrArg List.length (show R.l.take (come a R.l) ++ (R.pop a).l.take (come b (R.pop a).l) = R.l.take (come b R.l) by rw [come_split a b hab R.l, List.take_add]; rfl)
            rw [List.length_append, H1.out.2.2, HS2.out] at this
            exact this
          generalize hm : (R.l.take (come b R.l)).length = m at *
          rw [hl3] at h3
          have hRR : cF (R.pop b) = cF ((R.pop a).pop b) := by
            have e := come_split a b hab R.l
            funext j
            unfold cF
            match j with
            | 0 => rfl
            | 1 => rfl
            | 2 => rfl
            | 3 => rfl
            | n + 4 => show ((R.out + come b R.l : Nat) : Int) = ((R.out + come a R.l + come b (R.l.drop (come a R.l)) : Nat) : Int); rw [e]; omega
          have hHH : (R.pop b).hor = ((R.pop a).pop b).hor := by show max R.hor b = max (max R.hor a) b; omega
          have s6 := Lib.hid s6
          have H34 := Lib.hid (And.intro h3 (And.intro h4 (And.intro hRR (And.intro hHH hm))))
          clear h3 h4 f4 x6 H3 s5 hRR hHH hm
          go_upto_region 14 with (fail)
          have HL3 := Lib.hid hl3
          clear hl3
          obtain ⟨T, N, hO⟩ := opC
          have q2 : Ints w6 A2 0 5 (cF (R.pop b)) := two_counts s6.out
          have q1 : Ints w6 A1 0 5 (cF (R.pop b)) := by rw [H34.out.2.2.1]; exact two_counts s6.out.swap
          have hA1 : A1 < w6.heap.size := World.block_lt_of_cell? w6 ⟨A1, 0, none⟩ (two_cell s6.out.swap).1
          have hA2 : A2 < w6.heap.size := World.block_lt_of_cell? w6 ⟨A2, 0, none⟩ (two_cell s6.out).1
          have l1 := hO.load _ _ _ _ q1.drew
          have l2 := hO.load _ _ _ _ q2.drew
          have HH1 : Hid (∀ W, Below w6.heap.size w6 W → Calls Try.prog 13 #[.pointer (some ⟨A1, 0, none⟩)] W fun e w' => e = .returned (.int .i64 (R.pop b).hor) ∧ w' = W) := Lib.hid fun W k => by rw [H34.out.2.2.2.1]; exact two_hor (s6.out.call k).swap
          have HH2 : Hid (∀ W, Below w6.heap.size w6 W → Calls Try.prog 13 #[.pointer (some ⟨A2, 0, none⟩)] W fun e w' => e = .returned (.int .i64 (R.pop b).hor) ∧ w' = W) := Lib.hid fun W k => two_hor (s6.out.call k)
          generalize cF (R.pop b) = F at *
          generalize (R.pop b).hor = hr at *
          have he : eqB 5 F F = true := eqB_same 5 F
          have sa := hO.agg
          have ss := hO.size
          have sl : ∀ f, (rowA 5 f).size = 5 := fun f => rowA_size 5 f
          have sn := hO.neq
          have sg := hO.guard
          have se := hO.eqv
          rw [show Op.load 34 = Op.load T by rw [hO.is], show Op.binOp BinOp.neq 34 = Op.binOp BinOp.neq T by rw [hO.is]]
          clear hO q1 q2 hsz
          go_region_held3 (fun w' => Sem.run Try.prog (loadCellsFrom ⟨A1, 0, none⟩ 0 N #[]) w' = .ok (rowA 5 F) w' ∧ Sem.run Try.prog (loadCellsFrom ⟨A2, 0, none⟩ 0 N #[]) w' = .ok (rowA 5 F) w')
            ((first | exact ⟨l1, l2⟩))
            (first
              | (go_at_call 13; first | refine (HH1.out _ (Below.refl _ _).drew).mono ?_ | refine (HH2.out _ (Below.refl _ _).drew).mono ?_
                 rintro e w7 ⟨rfl, rfl⟩))
          clear l1 l2 sa ss sl sn sg se he hA1 hA2 HH1 HH2
          have hm64 : m ≤ 64 := by rw [← H34.out.2.2.2.2, List.length_take]; omega
          go_wp2_with fail
          go_loopw [14] (fun i wr => ∃ j : Nat, i = .int .i64 j ∧ j ≤ m ∧ Hid (Below w6.heap.size w6 wr)) (fun i _ => m - (intOf i).toNat)
          case atStart => exact ⟨0, rfl, Nat.zero_le _, Lib.hid (Below.refl _ _).drew⟩
          case round =>
            obtain ⟨j, rfl, hj, KW⟩ := hrel
            by_cases hjm : j < m
            · have hjI : (j : Int) < (m : Int) := by omega
              have hj0 : (0 : Int) ≤ (j : Int) := by omega
              obtain ⟨g3, c5, hv3, t3⟩ := row_cell (H34.out.1.keep (.of [] KW.out) (by simp)) (i := j) (by rw [H34.out.2.2.2.2]; exact hjm)
              obtain ⟨g4, c6, hv4, t4⟩ := row_cell (H34.out.2.1.keep (.of [] KW.out) (by simp)) (i := j) (by rw [H34.out.2.2.2.2]; exact hjm)
              injection hv3 with e3 e3b e3c
              injection hv4 with e4 e4b e4c
              clear e3b e4b e3c e4c
              subst e3 e4
              generalize fn ((R.l.take (come b R.l)).getD j []) = F at *
              obtain ⟨T, N, hO⟩ := opS
              have l1 := hO.load _ g3 (j * 9) F (Ints.drew ⟨fun i hi => t3 i hi⟩)
              have l2 := hO.load _ g4 (j * 9) F (Ints.drew ⟨fun i hi => t4 i hi⟩)
              have he : eqB 9 F F = true := eqB_same 9 F
              have sa := hO.agg
              have ss := hO.size
              have sl := hO.len
              have sn := hO.neq
              have sg := hO.guard
              have se := hO.eqv
              clear t3 t4
              go_upto_region 19 with (fail)
              rw [show Op.load 30 = Op.load T by rw [hO.is], show Op.binOp BinOp.neq 30 = Op.binOp BinOp.neq T by rw [hO.is]]
              clear hO
              go_region_held3 (fun w' => Sem.run Try.prog (loadCellsFrom ⟨g3, j * 9, none⟩ 0 N #[]) w' = .ok (rowA 9 F) w' ∧ Sem.run Try.prog (loadCellsFrom ⟨g4, j * 9, none⟩ 0 N #[]) w' = .ok (rowA 9 F) w')
                ((first | exact ⟨l1, l2⟩))
                (first | (go_at_call 13; skip))
              clear l1 l2 sa ss sl sn sg se he
              go_wp2_with fail
              go_roundw
              case rel => exact ⟨j + 1, by go_num, by omega, Lib.hid KW.out.drew⟩
              case measure => simp [intOf]; omega
            · obtain rfl : j = m := by omega
              go_wp2_with fail
              go_ret
              exact ⟨rfl, (k0.out.trans (s6.out.K.mono k0.out.size)).trans (KW.out.mono (Nat.le_trans k0.out.size s6.out.K.size))⟩
    · have e1 : ¬ (64 : Int) < (n : Int) := by omega
      have e2 : b < a := by omega
      go_wp2_with fail
      go_ret
      exact ⟨rfl, k0.out⟩
  · have e1 : (64 : Int) < (n : Int) := by omega
    go_wp2_with fail
    go_ret
    exact ⟨rfl, k0.out⟩
end Go.Proofs.Ytobdojccholkbaa.Rg
