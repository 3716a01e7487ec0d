/- Samples put in, in whatever order. -/
import Derived.Test.YtobdojccholkbaaRgZ
namespace Go.Proofs.Ytobdojccholkbaa.Rg
open Go.RowKit
set_option maxRecDepth 100000 in
set_option maxHeartbeats 32000000 in
theorem orders_walk (ad : Option Addr) (n c : Nat) (l : List Sam) (turn u : Int) (w : World) (hl : Arg 9 w ad n l) : Calls Try.prog 5 #[.slice ad n c, .int .i64 turn, .int .i64 u] w fun e w' => e = .returned (.bool true) ∧ Below w.heap.size w w' := by
  have hbig := hl.big
  obtain ⟨t, htt, ht⟩ := and_1023 turn
  go_enter Try.func5, Try.ntmps5
  go_wp2_with fail
  refine (awake_any w).mono ?_
  rintro e w0 ⟨rfl, k0⟩
  have k0 := Lib.hid k0
  have HL := Lib.hid (hl.below k0.out)
  have HT := Lib.hid htt
  clear hl
  by_cases hn : n ≤ 64
  · have e1 : ¬ (64 : Int) < (n : Int) := by omega
    go_wp2_with fail
    refine (two_new (nothing w0) 64 (by omega) (by omega)).mono ?_
    rintro e w1 ⟨rfl, s1⟩
    have s1 := Lib.hid s1.swap
    go_wp2_with fail
    refine (two_new s1.out 64 (by omega) (by omega)).mono ?_
    rintro e w2 ⟨rfl, s2⟩
    have s2 := Lib.hid s2
    clear s1
    go_wp2_with fail
    generalize w0.heap.size = A1 at *
    generalize w1.heap.size = A2 at *
    go_loopw [11] (fun i wr => ∃ k : Nat, i = .int .i64 k ∧ k ≤ n ∧ Hid (Two w0 (PB A2 ((Ring.new 64).puts ((rev l n t).take k))) (PB A1 ((Ring.new 64).puts (l.take k))) (foot A2) (foot A1) [] wr)) (fun i _ => n - (intOf i).toNat)
    case atStart => exact ⟨0, rfl, Nat.zero_le _, s2⟩
    case round =>
      clear s2
      obtain ⟨k, rfl, hk, s⟩ := hrel
      have hlk : (l.take k).length = k := by rw [List.length_take, HL.out.len]; omega
      have hlr : ((rev l n t).take k).length = k := by rw [List.length_take, rev_len]; omega
      have hfit := (Fits.new 64).puts (l.take k)
      have hfir := (Fits.new 64).puts ((rev l n t).take k)
      rw [hlk, Nat.zero_add] at hfit
      rw [hlr, Nat.zero_add] at hfir
      have HF := Lib.hid (And.intro hfit hfir)
      have hkI0 : (0 : Int) ≤ (k : Int) := by omega
      clear hfit hfir hlk hlr
      by_cases hlt : k < n
      · have hltI : (k : Int) < (n : Int) := by omega
        obtain ⟨i, hi⟩ : ∃ i, i = (n - 1 - k + t) % n := ⟨_, rfl⟩
        have hin : i < n := by rw [hi]; exact Nat.mod_lt _ (by omega)
        obtain ⟨gg, oo, y, had, hy, hy9, hgw, hI0⟩ := HL.out.one hlt
        obtain ⟨gg2, oo2, z, had2, hz, hz9, hgw2, hJ0⟩ := HL.out.one hin
        subst had
        injection had2 with had2
        injection had2 with f1 f2 _
        subst f1 f2
        have hI := hI0.below s.out.K hgw
        have HY := Lib.hid (And.intro hy (And.intro hz hi))
        have HJ0 := Lib.hid hJ0
        clear hI0 hJ0 hy hz hgw2
        have hidx : (((n : Int) - 1 - (k : Int)) + (t : Int)).tmod (n : Int) = (i : Int) := by
          rw [HY.out.2.2, show (n : Int) - 1 - (k : Int) + (t : Int) = ((n - 1 - k + t : Nat) : Int) by omega]
          exact (Int.ofNat_tmod _ _).symm
        have hi0 : (0 : Int) ≤ (i : Int) := by omega
        have hiI : (i : Int) < (n : Int) := by omega
        clear hi
        go_wp2_with ((with_reducible refine mid_load 30 (.tmp 43) ?_ ?_ gg (oo + k * 9) 9 (fn y) ?_ hI _ Try.underlying30 ?_ samSize ?_); rfl; rfl; rfl; rfl)
        refine (two_put s.out.swap y (by rw [HF.out.1.cnt]; omega) hy9 (by rw [HF.out.1.size]; omega) (by rw [HF.out.1.size]; omega) HF.out.1.len).mono ?_
        rintro e w3 ⟨rfl, s3, _⟩
        have hJ := HJ0.out.below s3.K hgw
        have s3 := Lib.hid s3.swap
        have htt := HT.out
        have hn0 : ¬ (n : Int) = 0 := by omega
        clear hI
        go_wp2_with ((with_reducible refine mid_load 30 (.tmp 59) ?_ ?_ gg (oo + i * 9) 9 (fn z) ?_ hJ _ Try.underlying30 ?_ samSize ?_); rfl; rfl; rfl; rfl)
        refine (two_put s3.out z (by rw [HF.out.2.cnt]; omega) hz9 (by rw [HF.out.2.size]; omega) (by rw [HF.out.2.size]; omega) HF.out.2.len).mono ?_
        rintro e w4 ⟨rfl, s4, _⟩
        have hrk : (rev l n t).getD k [] = z := by
          rw [HY.out.2.1, HY.out.2.2]
          unfold rev
          simp [List.getD_eq_getElem?_getD, hlt]
        rw [← puts_snoc, ← puts_snoc, HY.out.1, ← take_snoc l k (by rw [HL.out.len]; exact hlt), ← hrk, ← take_snoc (rev l n t) k (by rw [rev_len]; exact hlt)] at s4
        have s4 := Lib.hid s4
        clear s3 s hJ hidx hrk htt
        go_wp2_with fail
        go_roundw
        case rel => exact ⟨k + 1, by go_num, by omega, s4⟩
        case measure => simp [intOf]; omega
      · obtain rfl : k = n := by omega
        have htk : l.take k = l := List.take_of_length_le (by rw [HL.out.len]; omega)
        have htr : (rev l k t).take k = rev l k t := List.take_of_length_le (by rw [rev_len]; omega)
        rw [htk, htr, puts_perm (rev_perm l k t HL.out.len) (Ring.new 64) (by rw [rev_len]; show 0 + k ≤ 64; omega)] at s
        rw [htk, htr] at HF
        have HF := Lib.hid HF.out.1
        clear htk htr
        generalize (Ring.new 64).puts l = R at *
        have hl64 : R.l.length ≤ 64 := by have := HF.out.len; rw [HF.out.size] at this; exact this
        go_wp2_with fail
        refine (two_pop s.out.swap u (by rw [HF.out.cnt]; omega)).mono ?_
        rintro e w3 ⟨a1, c1, rfl, h1, f1, s3, _⟩
        generalize hm : (R.l.take (come u R.l)).length = m at *
        have H1 := Lib.hid h1
        have s3 := Lib.hid s3.swap
        clear h1 f1
        have HM := Lib.hid hm
        clear hm
        go_wp2_with fail
        refine (two_pop s3.out u (by rw [HF.out.cnt]; omega)).mono ?_
        rintro e w6 ⟨a4, c4, rfl, h4, f4, s6, x6⟩
        have h1 := H1.out.same (fun q hq => x6 q (List.mem_append_left _ hq))
        rw [HM.out] at h4
        have H34 := Lib.hid (And.intro h1 h4)
        rw [HM.out] at s6
        have s6 := Lib.hid s6
        rw [HM.out]
        clear h1 h4 f4 x6 H1 s3
        go_upto_region 16 with (fail)
        obtain ⟨T, N, hO⟩ := opC
        have q2 : Ints w6 A2 0 5 (cF (R.pop u)) := two_counts s6.out
        have q1 : Ints w6 A1 0 5 (cF (R.pop u)) := two_counts s6.out.swap
        have l1 := hO.load _ _ _ _ q1.drew
        have l2 := hO.load _ _ _ _ q2.drew
        generalize cF (R.pop u) = F at *
        have he : eqB 5 F F = true := eqB_same 5 F
        have sa := hO.agg
        have ss := hO.size
        have sl : ∀ f, (rowA 5 f).size = 5 := fun f => rowA_size 5 f
        have sn := hO.neq
        have sg := hO.guard
        have se := hO.eqv
        rw [show Op.load 34 = Op.load T by rw [hO.is], show Op.binOp BinOp.neq 34 = Op.binOp BinOp.neq T by rw [hO.is]]
        clear hO q1 q2
        go_region_held3 (fun w' => Sem.run Try.prog (loadCellsFrom ⟨A1, 0, none⟩ 0 N #[]) w' = .ok (rowA 5 F) w' ∧ Sem.run Try.prog (loadCellsFrom ⟨A2, 0, none⟩ 0 N #[]) w' = .ok (rowA 5 F) w')
          ((first | exact ⟨l1, l2⟩))
          (first | (go_at_call 13; skip))
        clear l1 l2 sa ss sl sn sg se he
        have hm64 : m ≤ 64 := by rw [← HM.out, List.length_take]; omega
        have hsrt := (two_buf s6.out).1
        have hsrtR : Sorted R.l := (two_buf s.out).1
        have hnine : ∀ y ∈ R.l, y.length = 9 := (two_buf s.out).2.1
        have HSR := Lib.hid (And.intro hsrtR hnine)
        clear hsrt hsrtR hnine
        go_wp2_with fail
        go_loopw [14] (fun i wr => ∃ j : Nat, i = .int .i64 j ∧ j ≤ m ∧ Hid (Below w6.heap.size w6 wr)) (fun i _ => m - (intOf i).toNat)
        case atStart => exact ⟨0, rfl, Nat.zero_le _, Lib.hid (Below.refl _ _).drew⟩
        case round =>
          obtain ⟨j, rfl, hj, KW⟩ := hrel
          by_cases hjm : j < m
          · have hjI : (j : Int) < (m : Int) := by omega
            have hj0 : (0 : Int) ≤ (j : Int) := by omega
            obtain ⟨g3, c5, hv3, t3⟩ := row_cell (H34.out.1.keep (.of [] KW.out) (by simp)) (i := j) (by rw [HM.out]; exact hjm)
            obtain ⟨g4, c6, hv4, t4⟩ := row_cell (H34.out.2.keep (.of [] KW.out) (by simp)) (i := j) (by rw [HM.out]; exact hjm)
            injection hv3 with e3 e3b e3c
            injection hv4 with e4 e4b e4c
            clear e3b e4b e3c e4c
            subst e3 e4
            have hgr3 : g3 < wr.heap.size := (H34.out.1.keep (.of [] KW.out) (by simp)).lt g3 (by simp [own])
            have hgr4 : g4 < wr.heap.size := (H34.out.2.keep (.of [] KW.out) (by simp)).lt g4 (by simp [own])
            have hjc : j < come u R.l := by have := HM.out; rw [List.length_take] at this; omega
            have hget : (R.l.take (come u R.l)).getD j [] = R.l.getD j [] := by
              simp only [List.getD_eq_getElem?_getD]
              rw [List.getElem?_take_of_lt hjc]
            rw [hget] at t3 t4
            have hle : fn (R.l.getD j []) 0 ≤ u := come_in u R.l j hjc
            have hnle : ¬ u < fn (R.l.getD j []) 0 := by omega
            obtain ⟨y, hy⟩ : ∃ y, y = R.l.getD j [] := ⟨_, rfl⟩
            have hjl : j < R.l.length := by have := come_le u R.l; omega
            have hy9 : y.length = 9 := by
              rw [hy]; simp only [List.getD_eq_getElem?_getD, List.getElem?_eq_getElem hjl, Option.getD_some]
              exact HSR.out.2 _ (List.getElem_mem _)
            rw [← hy] at t3 t4 hnle
            have HY := Lib.hid hy
            have c0 := t3 0 (by omega)
            rw [Nat.add_zero] at c0
            have i3 : Ints wr g3 (j * 9) 9 (fn y) := ⟨fun i hi => t3 i hi⟩
            have i4 : Ints wr g4 (j * 9) 9 (fn y) := ⟨fun i hi => t4 i hi⟩
            clear hy hle t3 t4 hget
            obtain ⟨T, N, hO⟩ := opS
            have l1 := hO.load _ g3 (j * 9) (fn y) i3.drew
            have l2 := hO.load _ g4 (j * 9) (fn y) i4.drew
            have he : eqB 9 (fn y) (fn y) = true := eqB_same 9 (fn y)
            have sa := hO.agg
            have ss := hO.size
            have sl := hO.len
            have sn := hO.neq
            have sg := hO.guard
            have se := hO.eqv
            have HO := Lib.hid hO
            go_upto_region 21 with (fail)
            rw [show Op.load 30 = Op.load T by rw [hO.is], show Op.binOp BinOp.neq 30 = Op.binOp BinOp.neq T by rw [hO.is]]
            clear hO
            by_cases hj1 : j = 0
            · subst hj1
              have l1' := l1
              have l2' := l2
              have c0' : wr.drew.cell? ⟨g3, 0 * 9, none⟩ = some (.int .i64 (fn y 0)) := c0
              rw [Nat.zero_mul] at l1' l2' c0'
              clear l1 l2 c0 i3 i4
              refine rg_in (fun w' => w'.cell? ⟨g3, 0, none⟩ = some (.int .i64 (fn y 0)) ∧ Sem.run Try.prog (loadCellsFrom ⟨g3, 0, none⟩ 0 N #[]) w' = .ok (rowA 9 (fn y)) w' ∧ Sem.run Try.prog (loadCellsFrom ⟨g4, 0, none⟩ 0 N #[]) w' = .ok (rowA 9 (fn y)) w' ∧ Below w6.heap.size w6 w') (by kernel_rfl) (by kernel_rfl) ⟨c0', l1', l2', KW.out.drew⟩ ?_
              clear c0' l1' l2'
              refine rq_start ?_
              refine rq_pure (.slice (some ⟨g3, 0, none⟩) m c1) (by kernel_rfl) (fun w => by first | kernel_rfl | go_simp) ?_
              apply rq_as
              focus (go_simp; exact rfl)
              refine rq_pure (.int .i64 0) (by kernel_rfl) (fun w => by first | kernel_rfl | go_simp) ?_
              apply rq_as
              focus (go_simp; exact rfl)
              refine rq_pure (.pointer (some ⟨g3, 0, none⟩)) (by kernel_rfl) (fun w => by go_simp) ?_
              apply rq_as
              focus (go_simp; exact rfl)
              refine rq_in (.agg (rowA 9 (fn y))) (by kernel_rfl) (fun w h => by have hc := h.2.1; go_simp) ?_
              apply rq_as
              focus (go_simp; exact rfl)
              refine rq_pure (.slice (some ⟨g4, 0, none⟩) m c4) (by kernel_rfl) (fun w => by first | kernel_rfl | go_simp) ?_
              apply rq_as
              focus (go_simp; exact rfl)
              refine rq_pure (.int .i64 0) (by kernel_rfl) (fun w => by first | kernel_rfl | go_simp) ?_
              apply rq_as
              focus (go_simp; exact rfl)
              refine rq_pure (.pointer (some ⟨g4, 0, none⟩)) (by kernel_rfl) (fun w => by go_simp) ?_
              apply rq_as
              focus (go_simp; exact rfl)
              refine rq_in (.agg (rowA 9 (fn y))) (by kernel_rfl) (fun w h => by have hc := h.2.2.1; go_simp) ?_
              apply rq_as
              focus (go_simp; exact rfl)
              refine rq_pure (.bool false) (by kernel_rfl) (fun w => by go_simp) ?_
              apply rq_as
              focus (go_simp; exact rfl)
              refine rq_pure (.bool false) (by kernel_rfl) (fun w => by first | kernel_rfl | go_simp) ?_
              apply rq_as
              focus (go_simp; exact rfl)
              refine rq_pure (.slice (some ⟨g3, 0, none⟩) m c1) (by kernel_rfl) (fun w => by first | kernel_rfl | go_simp) ?_
              apply rq_as
              focus (go_simp; exact rfl)
              refine rq_pure (.int .i64 0) (by kernel_rfl) (fun w => by first | kernel_rfl | go_simp) ?_
              apply rq_as
              focus (go_simp; exact rfl)
              refine rq_pure (.pointer (some ⟨g3, 0, none⟩)) (by kernel_rfl) (fun w => by go_simp) ?_
              apply rq_as
              focus (go_simp; exact rfl)
              refine rq_pure (.pointer (some ⟨g3, 0, none⟩)) (by kernel_rfl) (fun w => by go_simp) ?_
              apply rq_as
              focus (go_simp; exact rfl)
              refine rq_in (.int .i64 (fn y 0)) (by kernel_rfl) (fun w h => by have hc := h.1; go_simp) ?_
              apply rq_as
              focus (go_simp; exact rfl)
              refine rq_pure (.int .i64 u) (by kernel_rfl) (fun w => by first | kernel_rfl | go_simp) ?_
              apply rq_as
              focus (go_simp; exact rfl)
              refine rq_pure (.bool false) (by kernel_rfl) (fun w => by go_simp) ?_
              apply rq_as
              focus (go_simp; exact rfl)
              refine rq_pure (.bool false) (by kernel_rfl) (fun w => by first | kernel_rfl | go_simp) ?_
              apply rq_as
              focus (go_simp; exact rfl)
              refine rq_pure (.bool false) (by kernel_rfl) (fun w => by first | kernel_rfl | go_simp) ?_
              apply rq_as
              focus (go_simp; exact rfl)
              refine rq_pure (.int .i64 0) (by kernel_rfl) (fun w => by first | kernel_rfl | go_simp) ?_
              apply rq_as
              focus (go_simp; exact rfl)
              refine rq_pure (.bool false) (by kernel_rfl) (fun w => by go_simp) ?_
              apply rq_as
              focus (go_simp; exact rfl)
              refine rq_pure (.bool false) (by kernel_rfl) (fun w => by first | kernel_rfl | go_simp) ?_
              apply rq_as
              focus (go_simp; exact rfl)
              refine rq_skip (by kernel_rfl) ?_
              apply rq_as
              focus (go_simp; exact rfl)
              refine rq_skip (by kernel_rfl) ?_
              apply rq_as
              focus (go_simp; exact rfl)
              refine rq_skip (by kernel_rfl) ?_
              apply rq_as
              focus (go_simp; exact rfl)
              refine rq_skip (by kernel_rfl) ?_
              apply rq_as
              focus (go_simp; exact rfl)
              refine rq_skip (by kernel_rfl) ?_
              apply rq_as
              focus (go_simp; exact rfl)
              refine rq_skip (by kernel_rfl) ?_
              apply rq_as
              focus (go_simp; exact rfl)
              refine rq_skip (by kernel_rfl) ?_
              apply rq_as
              focus (go_simp; exact rfl)
              refine rq_skip (by kernel_rfl) ?_
              apply rq_as
              focus (go_simp; exact rfl)
              refine rq_skip (by kernel_rfl) ?_
              apply rq_as
              focus (go_simp; exact rfl)
              refine rq_skip (by kernel_rfl) ?_
              apply rq_as
              focus (go_simp; exact rfl)
              refine rq_pure (.bool false) (by kernel_rfl) (fun w => by first | kernel_rfl | go_simp) ?_
              apply rq_as
              focus (go_simp; exact rfl)
              refine rq_pure (.bool false) (by kernel_rfl) (fun w => by first | kernel_rfl | go_simp) ?_
              apply rq_as
              focus (go_simp; exact rfl)
              refine ⟨?_⟩
              intro wz hz
              have KZ := Lib.hid hz.2.2.2
              clear hz sa ss sl sn sg se he
              go_wp2_with fail
              go_roundw
              case rel => exact ⟨1, by go_num, by omega, KZ⟩
              case measure => simp [intOf]; omega
            · obtain ⟨i, hij⟩ : ∃ i, j = i + 1 := ⟨j - 1, by omega⟩
              obtain ⟨g5, c7, hv5, t5⟩ := row_cell (H34.out.1.keep (.of [] KW.out) (by simp)) (i := i) (by rw [HM.out]; omega)
              injection hv5 with e5 e5b e5c
              injection e5 with e5
              injection e5 with e5 _
              clear e5b e5c
              subst e5
              have hget : (R.l.take (come u R.l)).getD i [] = R.l.getD i [] := by
                simp only [List.getD_eq_getElem?_getD]
                rw [List.getElem?_take_of_lt (by omega)]
              rw [hget] at t5
              obtain ⟨z, hz⟩ : ∃ z, z = R.l.getD i [] := ⟨_, rfl⟩
              have hz9 : z.length = 9 := by
                rw [hz]; simp only [List.getD_eq_getElem?_getD, List.getElem?_eq_getElem (show i < R.l.length by omega), Option.getD_some]
                exact HSR.out.2 _ (List.getElem_mem _)
              have hlt : lt y z = false := by
                have := (List.pairwise_iff_getElem.1 HSR.out.1) i j (by omega) hjl (by omega)
                rw [HY.out, hz]
                simpa [List.getD_eq_getElem?_getD, List.getElem?_eq_getElem (show i < R.l.length by omega), List.getElem?_eq_getElem hjl] using this
              rw [← hz] at t5
              have i5 : Ints wr g3 (i * 9) 9 (fn z) := ⟨fun q hq => t5 q hq⟩
              have l3 := HO.out.load _ g3 (i * 9) (fn z) i5.drew
              have C : Hid (∀ W, Calls Try.prog 22 #[.agg (rowA 9 (fn y)), .agg (rowA 9 (fn z))] W fun e w' => e = .returned (.bool false) ∧ Below W.heap.size W w') := Lib.hid fun W => by have := less_any y z hy9 hz9 W; rwa [hlt] at this
              have Yy := Lib.hid (And.intro i3.drew (And.intro i4.drew (And.intro i5.drew (And.intro hgr3 hgr4))))
              have hw1 : IntKind.i64.wrap ((j : Int) - 1) = (i : Int) := by rw [IntKind.wrap_i64]; omega
              have hpos : (0 : Int) < (j : Int) := by omega
              have hposN : 0 < j := by omega
              have hposD : decide ((0 : Int) < (j : Int)) = true := by simp; omega
              have hi0 : (0 : Int) ≤ (i : Int) := by omega
              have hi1 : (i : Int) < (m : Int) := by omega
              have c0' : wr.drew.cell? ⟨g3, j * 9, none⟩ = some (.int .i64 (fn y 0)) := c0
              clear hget hlt hz t5 i3 i4 i5 hy9 hz9 hij hj1
              go_region_held3 (fun w' => w'.cell? ⟨g3, j * 9, none⟩ = some (.int .i64 (fn y 0)) ∧ Sem.run Try.prog (loadCellsFrom ⟨g3, j * 9, none⟩ 0 N #[]) w' = .ok (rowA 9 (fn y)) w' ∧ Sem.run Try.prog (loadCellsFrom ⟨g4, j * 9, none⟩ 0 N #[]) w' = .ok (rowA 9 (fn y)) w' ∧ Sem.run Try.prog (loadCellsFrom ⟨g3, i * 9, none⟩ 0 N #[]) w' = .ok (rowA 9 (fn z)) w')
                ((first | exact ⟨c0', l1, l2, l3⟩ | exact ⟨j0, j1, j2, j3⟩))
                (first
                  | (go_at_call 22; refine (C.out _).mono ?_; rintro e w7 ⟨rfl, k7⟩; have j0 := (cellAt k7 Yy.out.2.2.2.1 (i := j * 9)).trans c0'; have j1 := HO.out.load _ _ _ _ (Yy.out.1.below k7 Yy.out.2.2.2.1); have j2 := HO.out.load _ _ _ _ (Yy.out.2.1.below k7 Yy.out.2.2.2.2); have j3 := HO.out.load _ _ _ _ (Yy.out.2.2.1.below k7 Yy.out.2.2.2.1)))
              have KZ := Lib.hid (KW.out.trans ((Below.undrew k7).mono KW.out.size))
              clear j0 j1 j2 j3 c0 c0' l1 l2 l3 sa ss sl sn sg se he
              go_wp2_with fail
              go_roundw
              case rel => exact ⟨j + 1, by go_num, by omega, KZ⟩
              case measure => simp [intOf]; omega
          · obtain rfl : j = m := by omega
            go_wp2_with (first
              | (go_at_call 20; first | refine (two_len (s6.out.call KW.out)).mono ?_ | refine (two_len (s6.out.call KW.out).swap).mono ?_
                 rintro e w7 ⟨rfl, rfl⟩))
            go_ret
            exact ⟨rfl, (k0.out.trans (s6.out.K.mono k0.out.size)).trans (KW.out.mono (Nat.le_trans k0.out.size s6.out.K.size))⟩
  · have e1 : (64 : Int) < (n : Int) := by omega
    go_wp2_with fail
    go_ret
    exact ⟨rfl, k0.out⟩
end Go.Proofs.Ytobdojccholkbaa.Rg
