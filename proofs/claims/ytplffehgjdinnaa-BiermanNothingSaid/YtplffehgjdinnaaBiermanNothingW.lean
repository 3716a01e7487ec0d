/- The walk of BiermanNothing. -/
import Derived.Test.YtplffehgjdinnaaBieR
namespace Go.Proofs.Ytplffehgjdinnaa.biermanNothing
open Go.RowKit
abbrev Good (f : Nat → Int) (r : Int) (w : World) : Prop :=
  Calls Try.prog 15 #[.agg (rowA 300 f), .int .i64 r] w fun e w' => e = .returned (.bool true) ∧ Below w.heap.size w w'
set_option maxRecDepth 10000 in
set_option maxHeartbeats 8000000 in
theorem walk (f : Nat → Int) (_ : ∀ k, -9223372036854775808 ≤ f k ∧ f k ≤ 9223372036854775807) (r : Int) (_ : -9223372036854775808 ≤ r ∧ r ≤ 9223372036854775807) (w : World) : Good f r w := by
  unfold Good
  go_enter Try.func15, Try.ntmps15
  go_wp2_with fail
  generalize hW : World.alloc w _ = W0
  have hb : Below w.heap.size w W0 := by subst hW; exact (Below.refl _ _).alloc (Nat.le_refl _) _
  have hP : Blk W0 w.heap.size (rowA 300 f) 79 := by subst hW; exact Blk.made _ _ _ rfl
  clear hW
  refine (awake11_any W0).mono ?_
  rintro e w1 ⟨rfl, hb1⟩
  replace hP := hP.call hb1
  replace hb := hb.trans (hb1.mono hb.size)
  clear hb1
  go_upto_region 4 with (fail)
  have hl := hP.lt
  have L0 : Lw w w1.heap.size false [(w.heap.size, 300, f, 79)] (w1.alloc (.cells #[.bool false] 41)) :=
    ⟨Fl.made w1 41 false, hb.alloc hb.size _, hb.size, fun x hx => by
      simp only [List.mem_cons, List.not_mem_nil, or_false] at hx
      subst hx
      exact ⟨Nat.le_refl _, by dsimp only; omega, hP.alloc _⟩⟩
  clear hP hb hl
  generalize World.alloc w1 _ = W2 at *
  generalize w1.heap.size = q at *
  have hP : Blk W2 w.heap.size (rowA 300 f) 79 := L0.get (.head _)
  go_wp2_with ((with_reducible refine row_load 79 (.tmp 2) ?_ ?_ w.heap.size 300 f 79 ?_ hP _ Try.underlying79 ?_ covSize ?_); rfl; rfl; rfl; rfl)
  refine (condition_any q 0 f _ _ L0.fl).mono ?_
  rintro e w3 ⟨rfl, k3⟩
  have L3 := L0.flag k3
  clear L0 k3 hP
  go_upto_region 5 with ((with_reducible refine row_store 79 (.tmp 6) (.tmp 16) ?_ ?_ w3.heap.size 300 (condF f) (fun _ => 0) 79 ?_ ?_ ?_ covSize ?_); rfl; rfl; rfl; rfl; (rw [zeroCov]; exact Blk.made _ _ _ rfl))
  rw [zeroCov]
  have L4 := (L3.made 300 (fun _ => 0) 79).lay L3.newer (condF f)
  clear L3
  generalize World.setRow _ _ _ = w4 at *
  generalize w3.heap.size = C at *
  have hP : Blk w4 w.heap.size (rowA 300 f) 79 := L4.get (.tail _ (.head _))
  go_wp2_with ((with_reducible refine row_load 79 (.tmp 2) ?_ ?_ w.heap.size 300 f 79 ?_ hP _ Try.underlying79 ?_ covSize ?_); rfl; rfl; rfl; rfl)
  rw [zero24]
  refine (upd_none f r q 0 _ _ L4.fl).mono ?_
  rintro e w5 ⟨rfl, k5⟩
  have L5 := L4.flag k5
  clear L4 k5 hP
  go_upto_region 6 with (first
    | ((with_reducible refine row_store 79 (.tmp 7) (.tmp 23) ?_ ?_ w5.heap.size 300 (condF f) (fun _ => 0) 79 ?_ ?_ ?_ covSize ?_); rfl; rfl; rfl; rfl; (rw [zeroCov]; exact (Blk.made _ _ _ rfl).alloc _))
    | ((with_reducible refine row_store 100 (.tmp 8) (.tmp 24) ?_ ?_ (w5.heap.size + 1) 24 (fun _ => 0) (fun _ => 0) 100 ?_ ?_ ?_ brSize ?_); rfl; rfl; rfl; rfl; exact (Blk.made _ _ _ (by simp)).otherRow (by omega)))
  rw [zeroCov, zero24]
  have L6 := L5.got (rowA 300 fun _ => 0) (rowA 24 fun _ => 0) 300 24 79 100 (condF f) (fun _ => 0) rfl rfl
  clear L5
  generalize World.setRow _ _ _ = w6 at *
  generalize w5.heap.size = D at *
  have HI := Lib.hid (fun g w1 (fl : Fl q 0 g w1) => inn_none f r q 0 g w1 fl)
  have hr : r < 1 ∨ (1 ≤ r ∧ 72057594037927936 < r) ∨ (1 ≤ r ∧ r ≤ 72057594037927936 ∧ rV r = r) := by
    by_cases h1 : r < 1
    · exact .inl h1
    · by_cases h2 : 72057594037927936 < r
      · exact .inr (.inl ⟨by omega, h2⟩)
      · exact .inr (.inr ⟨by omega, by omega, clamp_id (by omega)⟩)
  generalize rV r = s at *
  generalize condF f = c at *
  obtain ⟨T, NC, hO⟩ := opeCov
  obtain ⟨TR, NR, hR⟩ := opeRow
  have l1 := hO.load w6 D c 79 (L6.get (.tail _ (.head _)))
  have l2 := hO.load w6 C c 79 (L6.get (.tail _ (.tail _ (.head _))))
  have l3 := hO.load w6 w.heap.size f 79 (L6.get (.tail _ (.tail _ (.tail _ (.head _)))))
  have l4 := hR.load w6 (D + 1) (fun _ => 0) 100 (L6.get (.head _))
  have hbu := zero_row
  have hbv := under_row
  have hTa := hO.agg
  have hTs := hO.size
  have hTe := hO.eql c c
  have hTg := hO.guard c c
  have hRa := hR.agg
  have hRs := hR.size
  have hRe := hR.eql (fun _ => 0) (fun _ => 0)
  have hRg := hR.guard (fun _ => 0) (fun _ => 0)
  rw [eqB_same] at hTe hRe
  rw [hR.is] at hbu hbv
  have hss : (s == s) = true := by simp
  rcases hr with h1 | ⟨h1, h2⟩ | ⟨h1, h2, rfl⟩
  all_goals
    go_upto_region 8 with (fail)
    rw [hO.is, hR.is]
    clear hO hR
    go_wp2_with fail
    refine (HI.out _ _ L6.fl).mono ?_
    rintro e w7 ⟨rfl, k7⟩
    have L7 := L6.flag k7
    go_wp2_with fail
    go_ret
    exact ⟨rfl, L7.be⟩
end Go.Proofs.Ytplffehgjdinnaa.biermanNothing
