/- Is an estimate within its box? The program's, the document's own. -/
import Derived.Test.YtdleeeahonfnkaaStA
namespace Go.Proofs.Ytdleeeahonfnkaa
open Go.RowKit
open SX (boxF inBox goodQ)
theorem boxF_bd (i : Nat) : 0 ≤ boxF i ∧ boxF i ≤ 9007199254740992 := by
  unfold boxF
  simp only [Bool.cond_eq_ite]
  (repeat' split) <;> omega
theorem inBox_iff (f : Nat → Int) : ∀ n, inBox f n = true ↔ ∀ j, j < n → -boxF j ≤ f j ∧ f j ≤ boxF j
  | 0 => by simp [inBox]
  | n + 1 => by
    rw [inBox, Bool.and_eq_true, inBox_iff f n, Bool.and_eq_true, SX.ile_iff, SX.ile_iff, decide_eq_true_eq, decide_eq_true_eq]
    refine ⟨fun h j hj => ?_, fun h => ⟨fun j hj => h j (by omega), h n (by omega)⟩⟩
    by_cases e : j = n
    · subst e; exact h.2
    · exact h.1 j (by omega)
theorem good_no {f : Nat → Int} {k : Nat} (hk : k < 24) (h : ¬ (-boxF k ≤ f k ∧ f k ≤ boxF k)) : goodQ f = false := by
  cases hq : goodQ f
  · rfl
  · unfold goodQ at hq
    rw [Bool.and_eq_true, inBox_iff] at hq
    exact absurd (hq.1 k hk) h
theorem good_yes {f : Nat → Int} (h : ∀ j, j < 24 → -boxF j ≤ f j ∧ f j ≤ boxF j) : goodQ f = SX.nearQ f := by
  unfold goodQ
  rw [(inBox_iff f 24).2 h, Bool.true_and]
theorem same_turned {P : Program} {k : FuncId} {args : Array Value} {v : Value} (h : ∀ w, Calls P k args w fun e w' => e = .returned v ∧ w = w') (w : World) : Calls P k args w fun e w' => e = .returned v ∧ w' = w :=
  (h w).mono fun _ _ ⟨h1, h2⟩ => ⟨h1, h2.symm⟩
theorem stateSize : (Try.prog.info? 77).map (·.size) = some 24 := by kernel_rfl
theorem boxSize : (Try.prog.info? 79).map (·.size) = some 24 := by kernel_rfl
theorem box_row : (#[.int .i64 1073741840, .int .i64 1073741840, .int .i64 1073741840, .int .i64 1073741840, .int .i64 549755813888, .int .i64 549755813888, .int .i64 549755813888, .int .i64 9007199254740992, .int .i64 9007199254740992, .int .i64 9007199254740992, .int .i64 134217728, .int .i64 134217728, .int .i64 134217728, .int .i64 1073741824, .int .i64 1073741824, .int .i64 1073741824, .int .i64 2147483648, .int .i64 2147483648, .int .i64 2147483648, .int .i64 2147483648, .int .i64 2147483648, .int .i64 2147483648, .int .i64 137438953472, .int .i64 137438953472] : Array Value) = rowA 24 boxF := by kernel_rfl
set_option maxHeartbeats 4000000 in
theorem bounds_is (w : World) : Calls Try.prog 67 #[] w fun e w' => e = .returned (.agg (rowA 24 boxF)) ∧ Below w.heap.size w w' := by
  go_enter Try.func67, Try.ntmps67
  go_upto_region 1 with (fail)
  generalize hW : World.alloc w _ = W
  have hb : Below w.heap.size w W := by subst hW; exact (Below.refl _ _).alloc (Nat.le_refl _) _
  have hB : Blk W w.heap.size (rowA 24 fun _ => 0) 79 := by subst hW; exact Blk.made _ _ _ (by kernel_rfl)
  clear hW
  go_wp2_with ((with_reducible refine row_store 79 (.tmp 0) (.tmp 1) ?_ ?_ w.heap.size 24 boxF (fun _ => 0) 79 ?_ ?_ hB boxSize ?_); rfl; rfl; rfl; (exact congrArg Value.agg box_row))
  exact bodyPost_ret (v := .agg (rowA 24 boxF)) (results_row rfl _ _ w.heap.size 24 _ _ _ rfl hB.setRow Try.underlying79 rfl boxSize) rfl ⟨rfl, below_setRow hb (Nat.le_refl _) _⟩
theorem zero4 : (#[.int .i64 0, .int .i64 0, .int .i64 0, .int .i64 0] : Array Value) = rowA 4 (fun _ => 0) := by kernel_rfl
theorem slarr_run {P : Program} {t e : TypeId} {n m : Nat} {i : TypeInfo} (hu : P.underlying t = some (.array n e)) (hi : P.info? e = some i) (_hs : i.size = 1) (hm : m ≤ n) (hn : 0 < n) (b off : Nat) (w : World) :
    (Instr.sliceAt t (.pointer (some ⟨b, off, none⟩)) (some (.int .i64 0)) (some (.int .i64 (m : Int))) none).run P w = .ok (.slice (some ⟨b, off, none⟩) m n) w := by
  have h1 : (m : Int) ≤ (n : Int) := by omega
  have h2 : ¬ n = 0 := by omega
  simp [Instr.sliceAt, run_underlying hu, Instr.sureAddr, Instr.sliceBounds, Instr.sliceBound, asIntOf, sizeOf, typeInfo, hi, Addr.add]
  intro h; omega
theorem slarr_step {P : Program} {ops : Array Oper} {rest : List Oper} {o : Oper} {a : Act} {w : World} {Q : Exit → Act → World → Prop} (t : TypeId) (x : Operand) (m : Nat) (hgd : o.guard = none) (ho : o.op = .slice t x (some (.const (.int .i64 0))) (some (.const (.int .i64 (m : Int)))) none)
    {e : TypeId} {n b off : Nat} {i : TypeInfo} (hu : P.underlying t = some (.array n e)) (hi : P.info? e = some i) (hs : i.size = 1) (hm : m ≤ n) (hn : 0 < n) (hx : a.eval x = .pointer (some ⟨b, off, none⟩))
    (h : wpList P ops Q rest (a.put o.dst (.slice (some ⟨b, off, none⟩) m n)) w) : wpList P ops Q (o :: rest) a w := by
  refine wpList_plain hgd fun K hK => ?_
  unfold Oper.wp execOp
  have h0 : a.eval (.const (.int .i64 0)) = .int .i64 0 := rfl
  have h1 : a.eval (.const (.int .i64 (m : Int))) = .int .i64 m := rfl
  simp only [ho, hx, Option.map_some, Option.map_none, h0, h1, slarr_run hu hi hs hm hn b off w, Sem.run_bind, Result.andThen_ok, Sem.run_pure]
  exact hK _ _ h
/-- A slice as a pointer at an array. -/
theorem arrat_step {P : Program} {ops : Array Oper} {rest : List Oper} {o : Oper} {a : Act} {w : World} {Q : Exit → Act → World → Prop} (t : TypeId) (x : Operand) (hgd : o.guard = none) (ho : o.op = .sliceToArrayPointer t x)
    {e : TypeId} {n l c : Nat} {b : Option Addr} (hu : P.underlying t = some (.array n e)) (hx : a.eval x = .slice b l c) (hl : n ≤ l)
    (h : wpList P ops Q rest (a.put o.dst (.pointer b)) w) : wpList P ops Q (o :: rest) a w := by
  refine wpList_plain hgd fun K hK => ?_
  unfold Oper.wp execOp
  have hn : ¬ l < n := by omega
  simp only [ho, hx, Instr.arrayAt, Sem.run_bind, run_underlying hu, Result.andThen_ok, hn, if_false, Sem.run_pure]
  exact hK _ _ h
set_option maxHeartbeats 4000000 in
theorem att_any (f : Nat → Int) (w : World) : Calls Try.prog 72 #[.agg (rowA 24 f)] w fun e w' => e = .returned (.agg (rowA 4 f)) ∧ Below w.heap.size w w' := by
  go_enter Try.func72, Try.ntmps72
  go_upto_region 1 with (fail)
  generalize hW : World.alloc (World.alloc w _) _ = W
  have hb : Below w.heap.size w W := by subst hW; exact ((Below.refl _ _).alloc (Nat.le_refl _) _).alloc (by simp) _
  have hB : Blk W w.heap.size (rowA 24 f) 77 := by subst hW; exact (Blk.made _ _ _ rfl).alloc _
  have hR : Blk W (w.heap.size + 1) (rowA 4 fun _ => 0) 85 := by subst hW; exact Blk.made _ _ _ (by simp)
  clear hW
  have hI := hB.ints.part 0 4 (by omega)
  simp only [Nat.zero_add, Nat.add_zero] at hI
  obtain ⟨i, hi⟩ : ∃ i, Try.prog.info? 2 = some i := by
    cases h : Try.prog.info? 2 with
    | none => have := i64Size; rw [h] at this; cases this
    | some i => exact ⟨i, rfl⟩
  have hs : i.size = 1 := by have := i64Size; rw [hi] at this; simpa using this
  refine wp_region_lit ?_
  refine slarr_step 77 (.tmp 1) 4 rfl rfl Try.underlying77 hi hs (by omega) (by omega) rfl ?_
  refine arrat_step 85 (.tmp 3) rfl rfl Try.underlying85 rfl (Nat.le_refl _) ?_
  refine mid_load 85 (.tmp 4) rfl rfl w.heap.size 0 4 f rfl hI _ Try.underlying85 rfl quatSize ?_
  refine row_store 85 (.tmp 2) (.tmp 5) rfl rfl (w.heap.size + 1) 4 f (fun _ => 0) _ rfl rfl hR quatSize ?_
  refine wpList_nil ?_
  go_wp2_with fail
  exact bodyPost_ret (v := .agg (rowA 4 f)) (results_row rfl _ _ (w.heap.size + 1) 4 _ _ _ rfl hR.setRow Try.underlying85 rfl quatSize) rfl ⟨rfl, below_setRow hb (by omega) _⟩
theorem four_row (f : Nat → Int) : (#[.int .i64 (f 0), .int .i64 (f 1), .int .i64 (f 2), .int .i64 (f 3)] : Array Value) = rowA 4 f := by
  refine rowA_of (n := 4) [_, _, _, _] f rfl fun j hj => ?_
  match j, hj with
  | 0, _ => rfl
  | 1, _ => rfl
  | 2, _ => rfl
  | 3, _ => rfl
set_option maxHeartbeats 4000000 in
theorem ratt_any (f : Nat → Int) (w : World) : Calls Try.prog 73 #[.agg (rowA 24 f)] w fun e w' => e = .returned (.agg (rowA 4 f)) ∧ Below w.heap.size w w' := by
  go_enter Try.func73, Try.ntmps73
  go_upto_region 1 with (fail)
  generalize hW : World.alloc (World.alloc w _) _ = W
  have hb : Below w.heap.size w W := by subst hW; exact ((Below.refl _ _).alloc (Nat.le_refl _) _).alloc (by simp) _
  have hB : Blk W w.heap.size (rowA 24 f) 77 := by subst hW; exact (Blk.made _ _ _ rfl).alloc _
  have hR : Blk W (w.heap.size + 1) (rowA 4 fun _ => 0) 87 := by subst hW; exact Blk.made _ _ _ (by simp)
  clear hW
  have h0 := hB.ints.at_ 0 (by omega)
  have h1 := hB.ints.at_ 1 (by omega)
  have h2 := hB.ints.at_ 2 (by omega)
  have h3 := hB.ints.at_ 3 (by omega)
  simp only [Nat.zero_add] at h0 h1 h2 h3
  go_wp2_with ((with_reducible refine row_store 87 (.tmp 2) (.tmp 11) ?_ ?_ (w.heap.size + 1) 4 f (fun _ => 0) 87 ?_ ?_ hR rquatSize ?_); rfl; rfl; rfl; (exact congrArg Value.agg (four_row f)))
  exact bodyPost_ret (v := .agg (rowA 4 f)) (results_row rfl _ _ (w.heap.size + 1) 4 _ _ _ rfl hR.setRow Try.underlying87 rfl rquatSize) rfl ⟨rfl, below_setRow hb (by omega) _⟩
theorem bound_is (k : Nat) (hk : k < 24) (w : World) : Calls Try.prog 75 #[.int .i64 (k : Int)] w fun e w' => e = .returned (.int .i64 (boxF k)) ∧ w = w' := by
  have HV := Lib.hid (show boxF k = if k < 4 then 1073741840 else if k < 7 then 549755813888 else if k < 10 then 9007199254740992 else if k < 13 then 134217728 else if k < 16 then 1073741824 else if k < 22 then 2147483648 else 137438953472 by
    unfold boxF; simp only [Bool.cond_eq_ite, Nat.blt_eq])
  go_enter Try.func75, Try.ntmps75
  by_cases h1 : k < 4
  · go_wp2_with fail
    go_ret
    exact ⟨by rw [HV.out, if_pos h1]; rfl, rfl⟩
  by_cases h2 : k < 7
  · go_wp2_with fail
    go_ret
    exact ⟨by rw [HV.out, if_neg h1, if_pos h2]; rfl, rfl⟩
  by_cases h3 : k < 10
  · go_wp2_with fail
    go_ret
    exact ⟨by rw [HV.out, if_neg h1, if_neg h2, if_pos h3]; rfl, rfl⟩
  by_cases h4 : k < 13
  · go_wp2_with fail
    go_ret
    exact ⟨by rw [HV.out, if_neg h1, if_neg h2, if_neg h3, if_pos h4]; rfl, rfl⟩
  by_cases h5 : k < 16
  · go_wp2_with fail
    go_ret
    exact ⟨by rw [HV.out, if_neg h1, if_neg h2, if_neg h3, if_neg h4, if_pos h5]; rfl, rfl⟩
  by_cases h6 : k < 22
  · go_wp2_with fail
    go_ret
    exact ⟨by rw [HV.out, if_neg h1, if_neg h2, if_neg h3, if_neg h4, if_neg h5, if_pos h6]; rfl, rfl⟩
  · go_wp2_with fail
    go_ret
    exact ⟨by rw [HV.out, if_neg h1, if_neg h2, if_neg h3, if_neg h4, if_neg h5, if_neg h6]; rfl, rfl⟩
set_option maxHeartbeats 8000000 in
theorem sgood_any (f : Nat → Int) (w : World) :
    Calls Try.prog 70 #[.agg (rowA 24 f)] w fun e w' => e = .returned (.bool (goodQ f)) ∧ Below w.heap.size w w' := by
  go_enter Try.func70, Try.ntmps70
  go_upto_region 1 with (fail)
  generalize hW : World.alloc w _ = W
  have hb : Below w.heap.size w W := by subst hW; exact (Below.refl _ _).alloc (Nat.le_refl _) _
  have hB : Blk W w.heap.size (rowA 24 f) 77 := by subst hW; exact Blk.made _ _ _ rfl
  have hz : w.heap.size < W.heap.size := by subst hW; simp
  clear hW
  go_wp2_with fail
  refine (bounds_is W).mono ?_
  rintro e W1 ⟨rfl, hb1⟩
  have hB := hB.call hb1
  replace hb := hb.trans (hb1.mono hb.size)
  clear hb1 hz
  go_wp2_with fail
  go_loopw [3, 4, 6] (fun x y i wr => ∃ k : Nat, k ≤ 24 ∧ i = .int .i64 (k : Int) ∧ (∀ j, j < k → -boxF j ≤ f j ∧ f j ≤ boxF j) ∧ Blk wr w.heap.size (rowA 24 f) 77 ∧ Below w.heap.size w wr) (fun _ _ i _ => 24 - (intOf i).toNat)
  case atStart => exact ⟨0, by omega, rfl, fun j hj => by omega, hB, hb⟩
  case round =>
    obtain ⟨k, hk, rfl, hs, hB, hb⟩ := hrel
    by_cases hlt : k < 24
    · have hc := hB.ints.at_ k hlt
      rw [Nat.zero_add] at hc
      have hltI : (k : Int) < 24 := by omega
      have hk0 : (0 : Int) ≤ (k : Int) := by omega
      have HB := Lib.hid hB
      have HS := Lib.hid hs
      have hbx := boxF_bd k
      clear hB hs
      by_cases hin : -boxF k ≤ f k ∧ f k ≤ boxF k
      · have HI := Lib.hid hin
        have HA : ¬ boxF k < absv (f k) := by unfold absv; (repeat' split) <;> omega
        clear hin
        go_wp2_with (refine index_row 79 _ _ rfl rfl (n := 24) (j := k) _ rfl rfl Try.underlying79 Try.underlying2 i64Size hlt ?_)
        refine (abs_any (f k) _).mono ?_
        rintro e w' ⟨rfl, rfl⟩
        generalize absv (f k) = A at *
        generalize hE : boxF k = B at *
        replace hE := Lib.hid hE
        go_wp2_with fail
        refine ⟨⟨k + 1, by omega, by simp, fun j hj => ?_, HB.out, hb⟩, by simp [intOf]; omega⟩
        by_cases e : j = k
        · subst e; rw [hE.out]; exact HI.out
        · exact HS.out j (by omega)
      · have HV := Lib.hid (good_no hlt hin)
        have HA : boxF k < absv (f k) := by unfold absv; (repeat' split) <;> omega
        clear hin
        go_wp2_with (refine index_row 79 _ _ rfl rfl (n := 24) (j := k) _ rfl rfl Try.underlying79 Try.underlying2 i64Size hlt ?_)
        refine (abs_any (f k) _).mono ?_
        rintro e w' ⟨rfl, rfl⟩
        generalize absv (f k) = A at *
        generalize boxF k = B at *
        go_wp2_with fail
        go_ret
        exact ⟨by rw [HV.out]; rfl, hb⟩
    · obtain rfl : k = 24 := by omega
      have HV := Lib.hid (good_yes hs)
      clear hs hlt
      go_wp2_with (refine row_load 77 _ rfl rfl w.heap.size 24 _ _ rfl hB _ Try.underlying77 rfl stateSize ?_)
      refine (att_any f wr).mono ?_
      rintro e w1 ⟨rfl, hb1⟩
      have hb2 := hb.trans (hb1.mono hb.size)
      clear hB
      go_wp2_with fail
      refine (near_any f w1).mono ?_
      rintro e w2 ⟨rfl, hb3⟩
      have hb4 := hb2.trans (hb3.mono hb2.size)
      go_wp2_with fail
      go_ret
      exact ⟨ret_bool HV.out.symm, hb4⟩
set_option maxHeartbeats 8000000 in
theorem srgood_any (f : Nat → Int) (w : World) :
    Calls Try.prog 71 #[.agg (rowA 24 f)] w fun e w' => e = .returned (.bool (goodQ f)) ∧ Below w.heap.size w w' := by
  go_enter Try.func71, Try.ntmps71
  go_upto_region 1 with (fail)
  generalize hW : World.alloc w _ = W
  have hb : Below w.heap.size w W := by subst hW; exact (Below.refl _ _).alloc (Nat.le_refl _) _
  have hB : Blk W w.heap.size (rowA 24 f) 77 := by subst hW; exact Blk.made _ _ _ rfl
  clear hW
  go_wp2_with fail
  go_loopw [3] (fun i wr => ∃ k : Nat, k ≤ 24 ∧ i = .int .i64 (k : Int) ∧ (∀ j, j < k → -boxF j ≤ f j ∧ f j ≤ boxF j) ∧ Blk wr w.heap.size (rowA 24 f) 77 ∧ Below w.heap.size w wr) (fun i _ => 24 - (intOf i).toNat)
  case atStart => exact ⟨0, by omega, rfl, fun j hj => by omega, hB, hb⟩
  case round =>
    obtain ⟨k, hk, rfl, hs, hB, hb⟩ := hrel
    by_cases hlt : k < 24
    · have hc := hB.ints.at_ k hlt
      rw [Nat.zero_add] at hc
      have hltI : (k : Int) < 24 := by omega
      have hk0 : (0 : Int) ≤ (k : Int) := by omega
      have HB := Lib.hid hB
      have HS := Lib.hid hs
      have hbx := boxF_bd k
      have HQ := Lib.hid (fun w => bound_is k hlt w)
      clear hB hs
      by_cases h1 : f k < -boxF k
      · have HV := Lib.hid (good_no (f := f) hlt (by omega))
        generalize boxF k = B at *
        go_wp2_with fail
        go_quiet ((go_at_call 75; exact Calls.quiet_of_same (same_turned HQ.out _)))
        go_wp2_with fail
        go_ret
        exact ⟨by rw [HV.out]; rfl, below_drn hb _⟩
      · by_cases h2 : boxF k < f k
        · have HV := Lib.hid (good_no (f := f) hlt (by omega))
          generalize boxF k = B at *
          have hd1 : decide (f k < -B) = false := decide_eq_false h1
          go_wp2_with fail
          go_quiet ((go_at_call 75; exact Calls.quiet_of_same (same_turned HQ.out _)))
          go_wp2_with fail
          go_ret
          exact ⟨by rw [HV.out]; rfl, below_drn hb _⟩
        · have HI := Lib.hid (show -boxF k ≤ f k ∧ f k ≤ boxF k by omega)
          generalize hE : boxF k = B at *
          replace hE := Lib.hid hE
          have hd1 : decide (f k < -B) = false := decide_eq_false h1
          have hd2 : decide (B < f k) = false := decide_eq_false h2
          go_wp2_with fail
          go_quiet ((go_at_call 75; exact Calls.quiet_of_same (same_turned HQ.out _)))
          go_wp2_with fail
          refine ⟨⟨k + 1, by omega, by simp, fun j hj => ?_, HB.out, below_drn hb _⟩, by simp [intOf]; omega⟩
          by_cases e : j = k
          · subst e; rw [hE.out]; exact HI.out
          · exact HS.out j (by omega)
    · obtain rfl : k = 24 := by omega
      have HV := Lib.hid (good_yes hs)
      clear hs hlt
      go_wp2_with (refine row_load 77 _ rfl rfl w.heap.size 24 _ _ rfl hB _ Try.underlying77 rfl stateSize ?_)
      refine (ratt_any f wr).mono ?_
      rintro e w1 ⟨rfl, hb1⟩
      have hb2 := hb.trans (hb1.mono hb.size)
      clear hB
      go_wp2_with fail
      refine (rnear_any f w1).mono ?_
      rintro e w2 ⟨rfl, hb3⟩
      have hb4 := hb2.trans (hb3.mono hb2.size)
      go_wp2_with fail
      go_ret
      exact ⟨ret_bool HV.out.symm, hb4⟩
end Go.Proofs.Ytdleeeahonfnkaa
