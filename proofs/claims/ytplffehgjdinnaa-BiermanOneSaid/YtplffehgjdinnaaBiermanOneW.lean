/- The walk of BiermanOne. -/
import Derived.Test.YtplffehgjdinnaaBieT
import Derived.Test.YtplffehgjdinnaaBieV
namespace Go.Proofs.Ytplffehgjdinnaa.biermanOne
open Go.RowKit
abbrev Good (k d r : Int) (w : World) : Prop :=
  Calls Try.prog 14 #[.int .i64 k, .int .i64 d, .int .i64 r] w fun e w' => e = .returned (.bool true) ∧ Below w.heap.size w w'
set_option maxRecDepth 10000 in
set_option maxHeartbeats 8000000 in
theorem far (k d r : Int) (hn : k < 0 ∨ 23 < k ∨ d < 1048576 ∨ 36028797018963968 < d ∨ r < 1048576 ∨ 36028797018963968 < r) (w : World) : Good k d r w := by
  unfold Good
  go_enter Try.func14, Try.ntmps14
  go_wp2_with fail
  refine (awake11_any w).mono ?_
  rintro e w1 ⟨rfl, hb⟩
  by_cases h1 : k < 0
  · clear hn; go_wp2_with fail; go_ret; exact ⟨rfl, hb⟩
  by_cases h2 : 23 < k
  · clear hn; go_wp2_with fail; go_ret; exact ⟨rfl, hb⟩
  by_cases h3 : d < 1048576
  · clear hn; go_wp2_with fail; go_ret; exact ⟨rfl, hb⟩
  by_cases h4 : 36028797018963968 < d
  · clear hn; go_wp2_with fail; go_ret; exact ⟨rfl, hb⟩
  by_cases h5 : r < 1048576
  · clear hn; go_wp2_with fail; go_ret; exact ⟨rfl, hb⟩
  by_cases h6 : 36028797018963968 < r
  · clear hn; go_wp2_with fail; go_ret; exact ⟨rfl, hb⟩
  exact absurd hn (by omega)
theorem _root_.Go.Proofs.Ytplffehgjdinnaa.Fr.freshly {w0 : World} {p o : Nat} {g : Bool} {L : List (Nat × Nat × (Nat → Int) × TypeId)} {w : World} (s : Fr w0 p o g L w) (n : Nat) (f : Nat → Int) (t : TypeId) : Fresh2 w0 L w.heap.size n f t (w.alloc (.cells (rowA n f) t)) := ⟨s.F.size, fun x hx => Nat.ne_of_lt (s.B x hx).2.lt, Blk.made _ _ _ rfl⟩
theorem pick_one (B k : Nat) (hk : k < 24) (w : World) (hB : Blk w B (rowA 1 fun _ => (k : Int)) 3) :
    Calls Try.prog 89 #[.slice (some ⟨B, 0, none⟩) 1 1] w fun e w' => e = .returned (.agg (rowA 24 (oneR k))) ∧ Below w.heap.size w w' := by
  have h := pick_any (some ⟨B, 0, none⟩) 1 1 (fun _ => (k : Int)) w (fun _ => ⟨B, 0, rfl, hB.lt, hB.ints⟩) (by omega)
  rwa [show pickF (fun _ => (k : Int)) 1 = oneR k by
    funext x
    rw [pickF, if_pos (by omega), show ((k : Int)).toNat = k by omega]
    unfold upd oneR
    by_cases e : x = k
    · rw [if_pos e, if_pos e]
    · rw [if_neg e, if_neg e]; rfl] at h
/-- A region that only reads, closed to the elaborator. -/
structure Rq (P : Program) (ops : Array Oper) (C : World → Prop) (Q : Act → Prop) (l : List Oper) (a : Act) : Prop where
  out : wpQuiet P ops C Q l a
section
variable {P : Program} {ops : Array Oper} {C : World → Prop} {Q : Act → Prop} {o : Oper} {rest : List Oper} {a : Act}
theorem rq_as {l : List Oper} {b : Act} (h : a = b) (hk : Rq P ops C Q l b) : Rq P ops C Q l a := h ▸ hk
theorem rq_in (u : Value) (hw : Region.wanted o (yielded ops a.tmps) = true) (h : ∀ w, C w → (execOp a.eval o).run P w = .ok (.value u) w) (hk : Rq P ops C Q rest (a.put o.dst u)) : Rq P ops C Q (o :: rest) a := ⟨rs_in u hw h hk.out⟩
theorem rq_pure (u : Value) (hw : Region.wanted o (yielded ops a.tmps) = true) (h : ∀ w, (execOp a.eval o).run P w = .ok (.value u) w) (hk : Rq P ops C Q rest (a.put o.dst u)) : Rq P ops C Q (o :: rest) a := ⟨rs_pure u hw h hk.out⟩
theorem rq_skip (hw : Region.wanted o (yielded ops a.tmps) = false) (hk : Rq P ops C Q rest (a.put o.dst undef)) : Rq P ops C Q (o :: rest) a := ⟨rs_skip hw hk.out⟩
theorem rq_start {l : List Oper} (h : Rq P ops C Q l a) : wpQuiet P ops C Q l a := h.out
end
/-- A plain region's operations in one world, closed to the elaborator. -/
structure Wq (P : Program) (ops : Array Oper) (Q : Exit → Act → World → Prop) (l : List Oper) (a : Act) (w : World) : Prop where
  out : wpList P ops Q l a w
section
variable {P : Program} {ops : Array Oper} {Q : Exit → Act → World → Prop} {o : Oper} {rest : List Oper} {a : Act} {w : World}
theorem wq_as {l : List Oper} {b : Act} (h : a = b) (hk : Wq P ops Q l b w) : Wq P ops Q l a w := h ▸ hk
theorem wq_val (u : Value) (hw : Region.wanted o (yielded ops a.tmps) = true) (h : (execOp a.eval o).run P w = .ok (.value u) w) (hk : Wq P ops Q rest (a.put o.dst u) w) : Wq P ops Q (o :: rest) a w := ⟨by
  unfold wpList
  rw [if_pos hw]
  refine .inl ?_
  unfold Oper.wp
  rw [h]
  exact hk.out⟩
theorem wq_range {w : World} {b o n : Nat} {f : Nat → Int} (h : Ints w b o n f) : w.rangeAt b o (rowA n f).toList := by
  intro j v hv
  by_cases hj : j < n
  · have := rowA_get f hj
    rw [Array.getElem?_toList, this] at hv
    injection hv with hv
    rw [← hv]; exact h.at_ j hj
  · rw [Array.getElem?_toList, rowA_none f (by omega)] at hv; cases hv
theorem wq_mid (ty : TypeId) (x : Operand) (g off n : Nat) (f : Nat → Int) (d : TypeDesc) (hw : Region.wanted o (yielded ops a.tmps) = true) (ho : o.op = .load ty x)
    (hx : a.eval x = .pointer (some ⟨g, off, none⟩)) (hC : Ints w g off n f) (hu : P.underlying ty = some d) (hd : d.isRow = true) (hi : (P.info? ty).map (·.size) = some n)
    (hk : Wq P ops Q rest (a.put o.dst (.agg (rowA n f))) w) : Wq P ops Q (o :: rest) a w :=
  wq_val _ hw (by
    unfold execOp
    simp only [ho, hx, Instr.loadAt, Instr.sureAddr, Sem.run_bind, Sem.run_pure, Result.andThen_ok, run_loadVar_mid w g off ty (rowA n f).toList d (wq_range hC) hu hd (by rw [Array.length_toList, rowA_size]; exact hi)]) hk
theorem wq_eql (ty : TypeId) (x y : Operand) (t : TypeId) (n : Nat) (f g : Nat → Int) (hf : SX.flatOk P ty = some (List.replicate n true)) (hw : Region.wanted o (yielded ops a.tmps) = true) (ho : o.op = .binOp .eql ty x y t)
    (hx : a.eval x = .agg (rowA n f)) (hy : a.eval y = .agg (rowA n g)) (hk : Wq P ops Q rest (a.put o.dst (.bool (eqB n f g))) w) : Wq P ops Q (o :: rest) a w :=
  wq_val _ hw (by
    unfold execOp
    simp only [ho, hx, hy, Sem.run_bind, Sem.run_pure, Result.andThen_ok, guard_row hf, eql_row hf]) hk
theorem wq_start {id : Nat} {l : List Oper} (h : Wq P l.toArray Q l a w) : (Code.region id l.toArray false).wp P Q a w := wp_region_lit h.out
end
abbrev pt (b : Nat) : Value := .pointer (some ⟨b, 0, none⟩)
abbrev sl (b : Nat) : Value := .slice (some ⟨b, 0, none⟩) 1 1
abbrev oP (k : Nat) (d : Int) : Value := .agg (rowA 300 (oneP k d))
abbrev oQ (k : Nat) : Value := .agg (rowA 24 (oneR k))
abbrev nn (k : Nat) : Value := .int .i64 (k : Int)
abbrev ni (r : Int) : Value := .int .i64 r
abbrev oX (k : Nat) (d r : Int) : Value := .agg (rowA 300 (updF (oneP k d) (oneR k) r))
abbrev oY (k : Nat) (d r : Int) : Value := .agg (rowA 24 (updK (oneP k d) (oneR k) r))
abbrev oZ (k : Nat) (d r : Int) : Value := .int .i64 (updS (oneP k d) (oneR k) r)
abbrev oT (k : Nat) (d r : Int) : Value := .tuple #[oX k d r, oY k d r, oZ k d r]
def actO (k q P : Nat) (d r : Int) (b1 b2 b3 b4 b5 b6 : Bool) (a9 a10 a11 a47 a48 a49 a50 a51 a52 a53 a54 a55 a56 a57 : Value) : Act := ⟨⟨.int .i64 (k : Int) :: .int .i64 d :: .int .i64 r :: undef :: undef :: undef :: .bool false :: .pointer (some ⟨q, 0, none⟩) :: .pointer (some ⟨P, 0, none⟩) :: a9 :: a10 :: a11 :: undef :: undef :: undef :: .bool true :: .bool false :: .int .i64 (k : Int) :: .bool b1 :: .bool b1 :: .int .i64 (k : Int) :: .bool b2 :: .bool (b1 || b2) :: .bool (b1 || b2) :: .int .i64 d :: .bool b3 :: .bool (b1 || b2 || b3) :: .bool (b1 || b2 || b3) :: .int .i64 d :: .bool b4 :: .bool (b1 || b2 || b3 || b4) :: .bool (b1 || b2 || b3 || b4) :: .int .i64 r :: .bool b5 :: .bool (b1 || b2 || b3 || b4 || b5) :: .bool (b1 || b2 || b3 || b4 || b5) :: .int .i64 r :: .bool b6 :: .bool (b1 || b2 || b3 || b4 || b5 || b6) :: .agg #[.bool false] :: .pointer (some ⟨q, 0, none⟩) :: .pointer (some ⟨q, 0, none⟩) :: .agg (rowA 300 (newF (fun _ => 0) 0)) :: .int .i64 (k : Int) :: .int .i64 d :: .pointer (some ⟨P, 276, none⟩) :: .pointer (some ⟨P, 276 + k, none⟩) :: a47 :: a48 :: a49 :: a50 :: a51 :: a52 :: a53 :: a54 :: a55 :: a56 :: a57 :: undef :: undef :: undef :: undef :: undef :: undef :: undef :: undef :: undef :: undef :: undef :: undef :: undef :: undef :: undef :: undef :: undef :: undef :: undef :: undef :: undef :: undef :: undef :: undef :: undef :: undef :: undef :: undef :: undef :: undef :: undef :: undef :: undef :: undef :: undef :: undef :: undef :: undef :: undef :: undef :: undef :: undef :: undef :: undef :: undef :: undef :: undef :: undef :: undef :: undef :: undef :: undef :: undef :: undef :: undef :: undef :: undef :: undef :: undef :: undef :: undef :: undef :: undef :: undef :: undef :: undef :: undef :: undef :: undef :: undef :: undef :: undef :: undef :: undef :: undef :: undef :: undef :: undef :: undef :: undef :: undef :: []⟩, []⟩
set_option maxRecDepth 100000 in
set_option maxHeartbeats 8000000 in
theorem near (k : Nat) (d r : Int) (hk : k < 24) (hd : 1048576 ≤ d ∧ d ≤ 36028797018963968) (hr : 1048576 ≤ r ∧ r ≤ 36028797018963968) (w : World) : Good k d r w := by
  have k1 : ¬ (k : Int) < 0 := by omega
  have k2 : ¬ 23 < (k : Int) := by omega
  have d1 : ¬ d < 1048576 := by omega
  have d2 : ¬ 36028797018963968 < d := by omega
  have r1 : ¬ r < 1048576 := by omega
  have r2 : ¬ 36028797018963968 < r := by omega
  have HD := Lib.hid (And.intro hk (And.intro hd hr))
  clear hd hr
  unfold Good
  go_enter Try.func14, Try.ntmps14
  go_wp2_with fail
  refine (awake11_any w).mono ?_
  rintro e w1 ⟨rfl, hb⟩
  go_upto_region 6 with (fail)
  have fl := Fl.made w1 41 false
  have hb0 := hb.alloc hb.size (.cells #[.bool false] 41)
  have hq := hb.size
  clear k1 k2 d1 d2 r1 r2 hb
  generalize World.alloc w1 _ = W0 at *
  generalize w1.heap.size = q at *
  have hpw := fl.lt
  go_wp2_with fail
  refine (new_any q 0 none 0 0 (fun _ => 0) _ _ fl (fun h => absurd h (by omega)) (by omega)).mono ?_
  rintro e w2 ⟨rfl, k2⟩
  have L2 : Fr W0 q 0 false [] w2 := ⟨by have := (FlW.refl fl).trans k2; rwa [show newH (fun _ => (0 : Int)) 0 24 = false by decide] at this, fun x hx => absurd hx (List.not_mem_nil)⟩
  clear k2
  go_upto_region 7 with ((with_reducible refine row_store 79 (.tmp 8) (.tmp 42) ?_ ?_ w2.heap.size 300 (newF (fun _ => 0) 0) (fun _ => 0) 79 ?_ ?_ ?_ covSize ?_); rfl; rfl; rfl; rfl; (rw [zeroCov]; exact Blk.made _ _ _ rfl))
  rw [zeroCov]
  have S3 := (L2.fresh 300 79).set (r := newF (fun _ => 0) 0)
  have L3 := (L2.alloc (.cells (rowA 300 fun _ => 0) 79)).row S3.lo S3.gt (rowA 300 (newF (fun _ => 0) 0))
  have hP := S3.blk
  have c1 := hP.cell (276 + k)
  rw [rowA_get _ (by omega)] at c1
  have f1 := hP.free (276 + k)
  have S4 := S3.put (k := 276 + k) (by omega) d
  rw [show upd (newF (fun _ => 0) 0) (276 + k) d = oneP k d by
    funext x
    unfold upd newF oneP
    by_cases e : x = 276 + k
    · rw [if_pos e, if_neg (by omega), if_pos e]
    · rw [if_neg e, if_neg e]
      split
      · rfl
      · rw [if_neg (by omega)]] at S4
  have L4 := L3.other (i := 276 + k) S3.lo S3.gt (.int .i64 d)
  have hs := L4.join S4
  have Hs := Lib.hid hs
  clear hs L4 S4 L3 S3 L2 hP
  generalize World.setRow _ _ _ = w3 at *
  generalize w2.heap.size = P at *
  go_upto_region 8 with (fail)
  have hs := Hs.out
  have hkk := k
  generalize World.setCell w3 _ _ = X at *
  clear Hs c1 f1
  generalize decide ((k : Int) < 0) = b1
  generalize decide (23 < (k : Int)) = b2
  generalize decide (d < 1048576) = b3
  generalize decide (36028797018963968 < d) = b4
  generalize decide (r < 1048576) = b5
  generalize decide (36028797018963968 < r) = b6
  refine wp_join [9, 10, 11, 47, 48, 49, 50, 51, 52, 53, 54, 55, 56, 57] (fun w' u => ∃ B E, u 9 = .pointer (some ⟨B, 0, none⟩) ∧ u 10 = .pointer (some ⟨E, 0, none⟩) ∧ u 11 = .int .i64 (updS (oneP k d) (oneR k) r) ∧ Fr W0 q 0 (false || updH (oneP k d) (oneR k) r) [(P, 300, oneP k d, 79)] w' ∧ Fresh2 W0 [(P, 300, oneP k d, 79)] B 300 (updF (oneP k d) (oneR k) r) 79 w' ∧ Fresh2 W0 [(P, 300, oneP k d, 79)] E 24 (updK (oneP k d) (oneR k) r) 100 w' ∧ B ≠ E)
    (fun u => ⟨⟨.int .i64 (k : Int) :: .int .i64 d :: .int .i64 r :: undef :: undef :: undef :: .bool false :: .pointer (some ⟨q, 0, none⟩) :: .pointer (some ⟨P, 0, none⟩) :: u 9 :: u 10 :: u 11 :: undef :: undef :: undef :: .bool true :: .bool false :: .int .i64 (k : Int) :: .bool b1 :: .bool b1 :: .int .i64 (k : Int) :: .bool b2 :: .bool (b1 || b2) :: .bool (b1 || b2) :: .int .i64 d :: .bool b3 :: .bool (b1 || b2 || b3) :: .bool (b1 || b2 || b3) :: .int .i64 d :: .bool b4 :: .bool (b1 || b2 || b3 || b4) :: .bool (b1 || b2 || b3 || b4) :: .int .i64 r :: .bool b5 :: .bool (b1 || b2 || b3 || b4 || b5) :: .bool (b1 || b2 || b3 || b4 || b5) :: .int .i64 r :: .bool b6 :: .bool (b1 || b2 || b3 || b4 || b5 || b6) :: .agg #[.bool false] :: .pointer (some ⟨q, 0, none⟩) :: .pointer (some ⟨q, 0, none⟩) :: .agg (rowA 300 (newF (fun _ => 0) 0)) :: .int .i64 (k : Int) :: .int .i64 d :: .pointer (some ⟨P, 276, none⟩) :: .pointer (some ⟨P, 276 + k, none⟩) :: u 47 :: u 48 :: u 49 :: u 50 :: u 51 :: u 52 :: u 53 :: u 54 :: u 55 :: u 56 :: u 57 :: undef :: undef :: undef :: undef :: undef :: undef :: undef :: undef :: undef :: undef :: undef :: undef :: undef :: undef :: undef :: undef :: undef :: undef :: undef :: undef :: undef :: undef :: undef :: undef :: undef :: undef :: undef :: undef :: undef :: undef :: undef :: undef :: undef :: undef :: undef :: undef :: undef :: undef :: undef :: undef :: undef :: undef :: undef :: undef :: undef :: undef :: undef :: undef :: undef :: undef :: undef :: undef :: undef :: undef :: undef :: undef :: undef :: undef :: undef :: undef :: undef :: undef :: undef :: undef :: undef :: undef :: undef :: undef :: undef :: undef :: undef :: undef :: undef :: undef :: undef :: undef :: undef :: undef :: undef :: undef :: undef :: []⟩, []⟩) (fun u => by kernel_rfl) ?_ ?_
  · refine wp_region_held (S := fun w' => ∃ g, Fr W0 q 0 g [(P, 300, oneP k d, 79)] w') (by kernel_rfl) ?_
    change wpAnyH _ _ _ _ _ _ _ _ (World.drew _)
    replace hs := hs.drew
    generalize World.drew _ = Wst at *
    refine wpAnyH_take (i := 0) rfl (by kernel_rfl) (by kernel_rfl) (by kernel_rfl) (fun _ _ _ h => nomatch h.1) (yields_pure (v := .pointer (some ⟨q, 0, none⟩)) (by kernel_rfl) (fun _ => by kernel_rfl)) ⟨_, hs⟩ ?_
    refine wpAnyH_as (b := actO k q P d r b1 b2 b3 b4 b5 b6 undef undef undef undef (pt q) undef undef undef undef undef undef undef undef undef) (by kernel_rfl) ?_
    refine wpAnyH_take (i := 1) rfl (by kernel_rfl) (by kernel_rfl) (by kernel_rfl) (fun _ _ _ h => nomatch h.1) (yields_row 79 (.tmp 8) (P) 300 (oneP k d) 79 _ (by kernel_rfl) rfl (by kernel_rfl) (fun _ ⟨_, s⟩ => s.get (.head _)) Try.underlying79 rfl covSize) ⟨_, hs⟩ ?_
    refine wpAnyH_as (b := actO k q P d r b1 b2 b3 b4 b5 b6 undef undef undef undef (pt q) (oP k d) undef undef undef undef undef undef undef undef) (by kernel_rfl) ?_
    refine wpAnyH_take (i := 2) rfl (by kernel_rfl) (by kernel_rfl) (by kernel_rfl) (fun _ _ _ h => nomatch h.1) (yields_pure (v := .int .i64 (k : Int)) (by kernel_rfl) (fun _ => by kernel_rfl)) ⟨_, hs⟩ ?_
    refine wpAnyH_as (b := actO k q P d r b1 b2 b3 b4 b5 b6 undef undef undef undef (pt q) (oP k d) (nn k) undef undef undef undef undef undef undef) (by kernel_rfl) ?_
    refine wpAnyH_take (i := 5) rfl (by kernel_rfl) (by kernel_rfl) (by kernel_rfl) (fun _ _ _ h => nomatch h.1) (yields_pure (v := .int .i64 r) (by kernel_rfl) (fun _ => by kernel_rfl)) ⟨_, hs⟩ ?_
    refine wpAnyH_as (b := actO k q P d r b1 b2 b3 b4 b5 b6 undef undef undef undef (pt q) (oP k d) (nn k) undef undef (ni r) undef undef undef undef) (by kernel_rfl) ?_
    refine wpAnyH_all (rs := [3, 11, 12]) (by kernel_rfl) (by simp) ?_
    intro i hi
    simp only [List.mem_cons, List.not_mem_nil, or_false] at hi
    rcases hi with rfl | rfl | rfl
    · refine wpOp_value (by kernel_rfl) (by kernel_rfl) (w' := World.alloc Wst (.cells (rowA 1 fun _ => (k : Int)) 3)) (v := .slice (some ⟨Wst.heap.size, 0, none⟩) 1 1) (by kernel_rfl) ?_
      have fL := hs.freshly 1 (fun _ => (k : Int)) 3
      replace hs := hs.alloc (.cells (rowA 1 fun _ => (k : Int)) 3)
      generalize World.alloc Wst _ = W1 at *
      generalize Wst.heap.size = B1 at *
      refine ⟨⟨_, hs⟩, ?_⟩
      refine wpAnyH_as (b := actO k q P d r b1 b2 b3 b4 b5 b6 undef undef undef undef (pt q) (oP k d) (nn k) (sl B1) undef (ni r) undef undef undef undef) (by kernel_rfl) ?_
      refine wpAnyH_all (rs := [4, 11, 12]) (by kernel_rfl) (by simp) ?_
      intro i hi
      simp only [List.mem_cons, List.not_mem_nil, or_false] at hi
      rcases hi with rfl | rfl | rfl
      · refine wpOp_call (by kernel_rfl) (by kernel_rfl) (by kernel_rfl) (pick_one _ k hk _ fL.blk) ?_
        intro W2 k
        replace hs := hs.call k
        replace fL := fL.call k
        clear k
        refine ⟨⟨_, hs⟩, ?_⟩
        refine wpAnyH_as (b := actO k q P d r b1 b2 b3 b4 b5 b6 undef undef undef undef (pt q) (oP k d) (nn k) (sl B1) (oQ k) (ni r) undef undef undef undef) (by kernel_rfl) ?_
        refine wpAnyH_all (rs := [6, 11, 12]) (by kernel_rfl) (by simp) ?_
        intro i hi
        simp only [List.mem_cons, List.not_mem_nil, or_false] at hi
        rcases hi with rfl | rfl | rfl
        · refine wpOp_call (by kernel_rfl) (by kernel_rfl) (by kernel_rfl) (upd_any q 0 (oneP k d) (oneR k) r _ _ (hs.F.fl fl)) ?_
          intro W3 k
          replace hs := hs.flag hpw k
          replace fL := fL.flag hpw k
          clear k
          refine ⟨⟨_, hs⟩, ?_⟩
          refine wpAnyH_as (b := actO k q P d r b1 b2 b3 b4 b5 b6 undef undef undef undef (pt q) (oP k d) (nn k) (sl B1) (oQ k) (ni r) (oT k d r) undef undef undef) (by kernel_rfl) ?_
          refine wpAnyH_take (i := 7) rfl (by kernel_rfl) (by kernel_rfl) (by kernel_rfl) (fun _ _ _ h => nomatch h.1) (yields_pure (v := oT k d r) (by kernel_rfl) (fun _ => by kernel_rfl)) ⟨_, hs⟩ ?_
          refine wpAnyH_as (b := actO k q P d r b1 b2 b3 b4 b5 b6 undef undef undef (oT k d r) (pt q) (oP k d) (nn k) (sl B1) (oQ k) (ni r) (oT k d r) undef undef undef) (by kernel_rfl) ?_
          refine wpAnyH_take (i := 8) rfl (by kernel_rfl) (by kernel_rfl) (by kernel_rfl) (fun _ _ _ h => nomatch h.1) (yields_pure (v := oX k d r) (by kernel_rfl) (fun _ => by kernel_rfl)) ⟨_, hs⟩ ?_
          refine wpAnyH_as (b := actO k q P d r b1 b2 b3 b4 b5 b6 undef undef undef (oT k d r) (pt q) (oP k d) (nn k) (sl B1) (oQ k) (ni r) (oT k d r) (oX k d r) undef undef) (by kernel_rfl) ?_
          refine wpAnyH_take (i := 9) rfl (by kernel_rfl) (by kernel_rfl) (by kernel_rfl) (fun _ _ _ h => nomatch h.1) (yields_pure (v := oY k d r) (by kernel_rfl) (fun _ => by kernel_rfl)) ⟨_, hs⟩ ?_
          refine wpAnyH_as (b := actO k q P d r b1 b2 b3 b4 b5 b6 undef undef undef (oT k d r) (pt q) (oP k d) (nn k) (sl B1) (oQ k) (ni r) (oT k d r) (oX k d r) (oY k d r) undef) (by kernel_rfl) ?_
          refine wpAnyH_take (i := 10) rfl (by kernel_rfl) (by kernel_rfl) (by kernel_rfl) (fun _ _ _ h => nomatch h.1) (yields_pure (v := oZ k d r) (by kernel_rfl) (fun _ => by kernel_rfl)) ⟨_, hs⟩ ?_
          refine wpAnyH_as (b := actO k q P d r b1 b2 b3 b4 b5 b6 undef undef undef (oT k d r) (pt q) (oP k d) (nn k) (sl B1) (oQ k) (ni r) (oT k d r) (oX k d r) (oY k d r) (oZ k d r)) (by kernel_rfl) ?_
          refine wpAnyH_all (rs := [11, 12]) (by kernel_rfl) (by simp) ?_
          intro i hi
          simp only [List.mem_cons, List.not_mem_nil, or_false] at hi
          rcases hi with rfl | rfl
          · refine wpOp_value (by kernel_rfl) (by kernel_rfl) (w' := World.alloc W3 (.cells (rowA 300 fun _ => 0) 79)) (v := .pointer (some ⟨W3.heap.size, 0, none⟩)) (by rw [← zeroCov]; kernel_rfl) ?_
            have fD := hs.fresh 300 79
            have hneLD := Nat.ne_of_gt fL.blk.lt
            replace fL := fL.alloc (.cells (rowA 300 fun _ => 0) 79)
            replace hs := hs.alloc (.cells (rowA 300 fun _ => 0) 79)
            generalize World.alloc W3 _ = W4 at *
            generalize W3.heap.size = B4 at *
            refine ⟨⟨_, hs⟩, ?_⟩
            refine wpAnyH_as (b := actO k q P d r b1 b2 b3 b4 b5 b6 (pt B4) undef undef (oT k d r) (pt q) (oP k d) (nn k) (sl B1) (oQ k) (ni r) (oT k d r) (oX k d r) (oY k d r) (oZ k d r)) (by kernel_rfl) ?_
            refine wpAnyH_all (rs := [12]) (by kernel_rfl) (by simp) ?_
            intro i hi
            obtain rfl : i = 12 := by simpa using hi
            refine wpOp_value (by kernel_rfl) (by kernel_rfl) (w' := World.alloc W4 (.cells (rowA 24 fun _ => 0) 100)) (v := .pointer (some ⟨W4.heap.size, 0, none⟩)) (by rw [← zero24]; kernel_rfl) ?_
            have fE := hs.fresh 24 100
            have hneLE := Nat.ne_of_gt fL.blk.lt
            replace fL := fL.alloc (.cells (rowA 24 fun _ => 0) 100)
            have hneDE := Nat.ne_of_gt fD.blk.lt
            replace fD := fD.alloc (.cells (rowA 24 fun _ => 0) 100)
            replace hs := hs.alloc (.cells (rowA 24 fun _ => 0) 100)
            generalize World.alloc W4 _ = W5 at *
            generalize W4.heap.size = B5 at *
            refine ⟨⟨_, hs⟩, ?_⟩
            refine wpAnyH_as (b := actO k q P d r b1 b2 b3 b4 b5 b6 (pt B4) (pt B5) undef (oT k d r) (pt q) (oP k d) (nn k) (sl B1) (oQ k) (ni r) (oT k d r) (oX k d r) (oY k d r) (oZ k d r)) (by kernel_rfl) ?_
            refine wpAnyH_all (rs := [13]) (by kernel_rfl) (by simp) ?_
            intro i hi
            obtain rfl : i = 13 := by simpa using hi
            refine wpOp_store (by kernel_rfl) (by kernel_rfl) 79 (.tmp 9) (.tmp 55) B4 300 (updF (oneP k d) (oneR k) r) (fun _ => 0) 79 (by kernel_rfl) (by kernel_rfl) (by kernel_rfl) fD.blk covSize ?_
            replace hs := hs.row fD.lo fD.gt (rowA 300 (updF (oneP k d) (oneR k) r))
            replace fL := fL.otherRow (C := B4) (by omega) (rowA 300 (updF (oneP k d) (oneR k) r))
            replace fE := fE.otherRow (C := B4) (by omega) (rowA 300 (updF (oneP k d) (oneR k) r))
            replace fD := fD.set (r := (updF (oneP k d) (oneR k) r))
            refine ⟨⟨_, hs⟩, ?_⟩
            refine wpAnyH_all (rs := [14]) (by kernel_rfl) (by simp) ?_
            intro i hi
            obtain rfl : i = 14 := by simpa using hi
            refine wpOp_store (by kernel_rfl) (by kernel_rfl) 100 (.tmp 10) (.tmp 56) B5 24 (updK (oneP k d) (oneR k) r) (fun _ => 0) 100 (by kernel_rfl) (by kernel_rfl) (by kernel_rfl) fE.blk brSize ?_
            replace hs := hs.row fE.lo fE.gt (rowA 24 (updK (oneP k d) (oneR k) r))
            replace fL := fL.otherRow (C := B5) (by omega) (rowA 24 (updK (oneP k d) (oneR k) r))
            replace fD := fD.otherRow (C := B5) (by omega) (rowA 24 (updK (oneP k d) (oneR k) r))
            replace fE := fE.set (r := (updK (oneP k d) (oneR k) r))
            refine ⟨⟨_, hs⟩, ?_⟩
            refine wpAnyH_take (i := 15) rfl (by kernel_rfl) (by kernel_rfl) (by kernel_rfl) (fun _ _ _ h => nomatch h.1) (yields_pure (v := oZ k d r) (by kernel_rfl) (fun _ => by kernel_rfl)) ⟨_, hs⟩ ?_
            refine wpAnyH_as (b := actO k q P d r b1 b2 b3 b4 b5 b6 (pt B4) (pt B5) (oZ k d r) (oT k d r) (pt q) (oP k d) (nn k) (sl B1) (oQ k) (ni r) (oT k d r) (oX k d r) (oY k d r) (oZ k d r)) (by kernel_rfl) ?_
            refine wpAnyH_done (by kernel_rfl) ?_ _
            exact ⟨rfl, by kernel_rfl, B4, B5, by kernel_rfl, by kernel_rfl, by kernel_rfl, hs, fD, fE, by omega⟩
          · refine wpOp_value (by kernel_rfl) (by kernel_rfl) (w' := World.alloc W3 (.cells (rowA 24 fun _ => 0) 100)) (v := .pointer (some ⟨W3.heap.size, 0, none⟩)) (by rw [← zero24]; kernel_rfl) ?_
            have fE := hs.fresh 24 100
            have hneLE := Nat.ne_of_gt fL.blk.lt
            replace fL := fL.alloc (.cells (rowA 24 fun _ => 0) 100)
            replace hs := hs.alloc (.cells (rowA 24 fun _ => 0) 100)
            generalize World.alloc W3 _ = W8 at *
            generalize W3.heap.size = B8 at *
            refine ⟨⟨_, hs⟩, ?_⟩
            refine wpAnyH_as (b := actO k q P d r b1 b2 b3 b4 b5 b6 undef (pt B8) undef (oT k d r) (pt q) (oP k d) (nn k) (sl B1) (oQ k) (ni r) (oT k d r) (oX k d r) (oY k d r) (oZ k d r)) (by kernel_rfl) ?_
            refine wpAnyH_all (rs := [11]) (by kernel_rfl) (by simp) ?_
            intro i hi
            obtain rfl : i = 11 := by simpa using hi
            refine wpOp_value (by kernel_rfl) (by kernel_rfl) (w' := World.alloc W8 (.cells (rowA 300 fun _ => 0) 79)) (v := .pointer (some ⟨W8.heap.size, 0, none⟩)) (by rw [← zeroCov]; kernel_rfl) ?_
            have fD := hs.fresh 300 79
            have hneLD := Nat.ne_of_gt fL.blk.lt
            replace fL := fL.alloc (.cells (rowA 300 fun _ => 0) 79)
            have hneED := Nat.ne_of_gt fE.blk.lt
            replace fE := fE.alloc (.cells (rowA 300 fun _ => 0) 79)
            replace hs := hs.alloc (.cells (rowA 300 fun _ => 0) 79)
            generalize World.alloc W8 _ = W9 at *
            generalize W8.heap.size = B9 at *
            refine ⟨⟨_, hs⟩, ?_⟩
            refine wpAnyH_as (b := actO k q P d r b1 b2 b3 b4 b5 b6 (pt B9) (pt B8) undef (oT k d r) (pt q) (oP k d) (nn k) (sl B1) (oQ k) (ni r) (oT k d r) (oX k d r) (oY k d r) (oZ k d r)) (by kernel_rfl) ?_
            refine wpAnyH_all (rs := [13]) (by kernel_rfl) (by simp) ?_
            intro i hi
            obtain rfl : i = 13 := by simpa using hi
            refine wpOp_store (by kernel_rfl) (by kernel_rfl) 79 (.tmp 9) (.tmp 55) B9 300 (updF (oneP k d) (oneR k) r) (fun _ => 0) 79 (by kernel_rfl) (by kernel_rfl) (by kernel_rfl) fD.blk covSize ?_
            replace hs := hs.row fD.lo fD.gt (rowA 300 (updF (oneP k d) (oneR k) r))
            replace fL := fL.otherRow (C := B9) (by omega) (rowA 300 (updF (oneP k d) (oneR k) r))
            replace fE := fE.otherRow (C := B9) (by omega) (rowA 300 (updF (oneP k d) (oneR k) r))
            replace fD := fD.set (r := (updF (oneP k d) (oneR k) r))
            refine ⟨⟨_, hs⟩, ?_⟩
            refine wpAnyH_all (rs := [14]) (by kernel_rfl) (by simp) ?_
            intro i hi
            obtain rfl : i = 14 := by simpa using hi
            refine wpOp_store (by kernel_rfl) (by kernel_rfl) 100 (.tmp 10) (.tmp 56) B8 24 (updK (oneP k d) (oneR k) r) (fun _ => 0) 100 (by kernel_rfl) (by kernel_rfl) (by kernel_rfl) fE.blk brSize ?_
            replace hs := hs.row fE.lo fE.gt (rowA 24 (updK (oneP k d) (oneR k) r))
            replace fL := fL.otherRow (C := B8) (by omega) (rowA 24 (updK (oneP k d) (oneR k) r))
            replace fD := fD.otherRow (C := B8) (by omega) (rowA 24 (updK (oneP k d) (oneR k) r))
            replace fE := fE.set (r := (updK (oneP k d) (oneR k) r))
            refine ⟨⟨_, hs⟩, ?_⟩
            refine wpAnyH_take (i := 15) rfl (by kernel_rfl) (by kernel_rfl) (by kernel_rfl) (fun _ _ _ h => nomatch h.1) (yields_pure (v := oZ k d r) (by kernel_rfl) (fun _ => by kernel_rfl)) ⟨_, hs⟩ ?_
            refine wpAnyH_as (b := actO k q P d r b1 b2 b3 b4 b5 b6 (pt B9) (pt B8) (oZ k d r) (oT k d r) (pt q) (oP k d) (nn k) (sl B1) (oQ k) (ni r) (oT k d r) (oX k d r) (oY k d r) (oZ k d r)) (by kernel_rfl) ?_
            refine wpAnyH_done (by kernel_rfl) ?_ _
            exact ⟨rfl, by kernel_rfl, B9, B8, by kernel_rfl, by kernel_rfl, by kernel_rfl, hs, fD, fE, by omega⟩
        · refine wpOp_value (by kernel_rfl) (by kernel_rfl) (w' := World.alloc W2 (.cells (rowA 300 fun _ => 0) 79)) (v := .pointer (some ⟨W2.heap.size, 0, none⟩)) (by rw [← zeroCov]; kernel_rfl) ?_
          have fD := hs.fresh 300 79
          have hneLD := Nat.ne_of_gt fL.blk.lt
          replace fL := fL.alloc (.cells (rowA 300 fun _ => 0) 79)
          replace hs := hs.alloc (.cells (rowA 300 fun _ => 0) 79)
          generalize World.alloc W2 _ = W12 at *
          generalize W2.heap.size = B12 at *
          refine ⟨⟨_, hs⟩, ?_⟩
          refine wpAnyH_as (b := actO k q P d r b1 b2 b3 b4 b5 b6 (pt B12) undef undef undef (pt q) (oP k d) (nn k) (sl B1) (oQ k) (ni r) undef undef undef undef) (by kernel_rfl) ?_
          refine wpAnyH_all (rs := [6, 12]) (by kernel_rfl) (by simp) ?_
          intro i hi
          simp only [List.mem_cons, List.not_mem_nil, or_false] at hi
          rcases hi with rfl | rfl
          · refine wpOp_call (by kernel_rfl) (by kernel_rfl) (by kernel_rfl) (upd_any q 0 (oneP k d) (oneR k) r _ _ (hs.F.fl fl)) ?_
            intro W13 k
            replace hs := hs.flag hpw k
            replace fL := fL.flag hpw k
            replace fD := fD.flag hpw k
            clear k
            refine ⟨⟨_, hs⟩, ?_⟩
            refine wpAnyH_as (b := actO k q P d r b1 b2 b3 b4 b5 b6 (pt B12) undef undef undef (pt q) (oP k d) (nn k) (sl B1) (oQ k) (ni r) (oT k d r) undef undef undef) (by kernel_rfl) ?_
            refine wpAnyH_take (i := 7) rfl (by kernel_rfl) (by kernel_rfl) (by kernel_rfl) (fun _ _ _ h => nomatch h.1) (yields_pure (v := oT k d r) (by kernel_rfl) (fun _ => by kernel_rfl)) ⟨_, hs⟩ ?_
            refine wpAnyH_as (b := actO k q P d r b1 b2 b3 b4 b5 b6 (pt B12) undef undef (oT k d r) (pt q) (oP k d) (nn k) (sl B1) (oQ k) (ni r) (oT k d r) undef undef undef) (by kernel_rfl) ?_
            refine wpAnyH_take (i := 8) rfl (by kernel_rfl) (by kernel_rfl) (by kernel_rfl) (fun _ _ _ h => nomatch h.1) (yields_pure (v := oX k d r) (by kernel_rfl) (fun _ => by kernel_rfl)) ⟨_, hs⟩ ?_
            refine wpAnyH_as (b := actO k q P d r b1 b2 b3 b4 b5 b6 (pt B12) undef undef (oT k d r) (pt q) (oP k d) (nn k) (sl B1) (oQ k) (ni r) (oT k d r) (oX k d r) undef undef) (by kernel_rfl) ?_
            refine wpAnyH_take (i := 9) rfl (by kernel_rfl) (by kernel_rfl) (by kernel_rfl) (fun _ _ _ h => nomatch h.1) (yields_pure (v := oY k d r) (by kernel_rfl) (fun _ => by kernel_rfl)) ⟨_, hs⟩ ?_
            refine wpAnyH_as (b := actO k q P d r b1 b2 b3 b4 b5 b6 (pt B12) undef undef (oT k d r) (pt q) (oP k d) (nn k) (sl B1) (oQ k) (ni r) (oT k d r) (oX k d r) (oY k d r) undef) (by kernel_rfl) ?_
            refine wpAnyH_take (i := 10) rfl (by kernel_rfl) (by kernel_rfl) (by kernel_rfl) (fun _ _ _ h => nomatch h.1) (yields_pure (v := oZ k d r) (by kernel_rfl) (fun _ => by kernel_rfl)) ⟨_, hs⟩ ?_
            refine wpAnyH_as (b := actO k q P d r b1 b2 b3 b4 b5 b6 (pt B12) undef undef (oT k d r) (pt q) (oP k d) (nn k) (sl B1) (oQ k) (ni r) (oT k d r) (oX k d r) (oY k d r) (oZ k d r)) (by kernel_rfl) ?_
            refine wpAnyH_all (rs := [12]) (by kernel_rfl) (by simp) ?_
            intro i hi
            obtain rfl : i = 12 := by simpa using hi
            refine wpOp_value (by kernel_rfl) (by kernel_rfl) (w' := World.alloc W13 (.cells (rowA 24 fun _ => 0) 100)) (v := .pointer (some ⟨W13.heap.size, 0, none⟩)) (by rw [← zero24]; kernel_rfl) ?_
            have fE := hs.fresh 24 100
            have hneLE := Nat.ne_of_gt fL.blk.lt
            replace fL := fL.alloc (.cells (rowA 24 fun _ => 0) 100)
            have hneDE := Nat.ne_of_gt fD.blk.lt
            replace fD := fD.alloc (.cells (rowA 24 fun _ => 0) 100)
            replace hs := hs.alloc (.cells (rowA 24 fun _ => 0) 100)
            generalize World.alloc W13 _ = W14 at *
            generalize W13.heap.size = B14 at *
            refine ⟨⟨_, hs⟩, ?_⟩
            refine wpAnyH_as (b := actO k q P d r b1 b2 b3 b4 b5 b6 (pt B12) (pt B14) undef (oT k d r) (pt q) (oP k d) (nn k) (sl B1) (oQ k) (ni r) (oT k d r) (oX k d r) (oY k d r) (oZ k d r)) (by kernel_rfl) ?_
            refine wpAnyH_all (rs := [13]) (by kernel_rfl) (by simp) ?_
            intro i hi
            obtain rfl : i = 13 := by simpa using hi
            refine wpOp_store (by kernel_rfl) (by kernel_rfl) 79 (.tmp 9) (.tmp 55) B12 300 (updF (oneP k d) (oneR k) r) (fun _ => 0) 79 (by kernel_rfl) (by kernel_rfl) (by kernel_rfl) fD.blk covSize ?_
            replace hs := hs.row fD.lo fD.gt (rowA 300 (updF (oneP k d) (oneR k) r))
            replace fL := fL.otherRow (C := B12) (by omega) (rowA 300 (updF (oneP k d) (oneR k) r))
            replace fE := fE.otherRow (C := B12) (by omega) (rowA 300 (updF (oneP k d) (oneR k) r))
            replace fD := fD.set (r := (updF (oneP k d) (oneR k) r))
            refine ⟨⟨_, hs⟩, ?_⟩
            refine wpAnyH_all (rs := [14]) (by kernel_rfl) (by simp) ?_
            intro i hi
            obtain rfl : i = 14 := by simpa using hi
            refine wpOp_store (by kernel_rfl) (by kernel_rfl) 100 (.tmp 10) (.tmp 56) B14 24 (updK (oneP k d) (oneR k) r) (fun _ => 0) 100 (by kernel_rfl) (by kernel_rfl) (by kernel_rfl) fE.blk brSize ?_
            replace hs := hs.row fE.lo fE.gt (rowA 24 (updK (oneP k d) (oneR k) r))
            replace fL := fL.otherRow (C := B14) (by omega) (rowA 24 (updK (oneP k d) (oneR k) r))
            replace fD := fD.otherRow (C := B14) (by omega) (rowA 24 (updK (oneP k d) (oneR k) r))
            replace fE := fE.set (r := (updK (oneP k d) (oneR k) r))
            refine ⟨⟨_, hs⟩, ?_⟩
            refine wpAnyH_take (i := 15) rfl (by kernel_rfl) (by kernel_rfl) (by kernel_rfl) (fun _ _ _ h => nomatch h.1) (yields_pure (v := oZ k d r) (by kernel_rfl) (fun _ => by kernel_rfl)) ⟨_, hs⟩ ?_
            refine wpAnyH_as (b := actO k q P d r b1 b2 b3 b4 b5 b6 (pt B12) (pt B14) (oZ k d r) (oT k d r) (pt q) (oP k d) (nn k) (sl B1) (oQ k) (ni r) (oT k d r) (oX k d r) (oY k d r) (oZ k d r)) (by kernel_rfl) ?_
            refine wpAnyH_done (by kernel_rfl) ?_ _
            exact ⟨rfl, by kernel_rfl, B12, B14, by kernel_rfl, by kernel_rfl, by kernel_rfl, hs, fD, fE, by omega⟩
          · refine wpOp_value (by kernel_rfl) (by kernel_rfl) (w' := World.alloc W12 (.cells (rowA 24 fun _ => 0) 100)) (v := .pointer (some ⟨W12.heap.size, 0, none⟩)) (by rw [← zero24]; kernel_rfl) ?_
            have fE := hs.fresh 24 100
            have hneLE := Nat.ne_of_gt fL.blk.lt
            replace fL := fL.alloc (.cells (rowA 24 fun _ => 0) 100)
            have hneDE := Nat.ne_of_gt fD.blk.lt
            replace fD := fD.alloc (.cells (rowA 24 fun _ => 0) 100)
            replace hs := hs.alloc (.cells (rowA 24 fun _ => 0) 100)
            generalize World.alloc W12 _ = W17 at *
            generalize W12.heap.size = B17 at *
            refine ⟨⟨_, hs⟩, ?_⟩
            refine wpAnyH_as (b := actO k q P d r b1 b2 b3 b4 b5 b6 (pt B12) (pt B17) undef undef (pt q) (oP k d) (nn k) (sl B1) (oQ k) (ni r) undef undef undef undef) (by kernel_rfl) ?_
            refine wpAnyH_all (rs := [6]) (by kernel_rfl) (by simp) ?_
            intro i hi
            obtain rfl : i = 6 := by simpa using hi
            refine wpOp_call (by kernel_rfl) (by kernel_rfl) (by kernel_rfl) (upd_any q 0 (oneP k d) (oneR k) r _ _ (hs.F.fl fl)) ?_
            intro W18 k
            replace hs := hs.flag hpw k
            replace fL := fL.flag hpw k
            replace fD := fD.flag hpw k
            replace fE := fE.flag hpw k
            clear k
            refine ⟨⟨_, hs⟩, ?_⟩
            refine wpAnyH_as (b := actO k q P d r b1 b2 b3 b4 b5 b6 (pt B12) (pt B17) undef undef (pt q) (oP k d) (nn k) (sl B1) (oQ k) (ni r) (oT k d r) undef undef undef) (by kernel_rfl) ?_
            refine wpAnyH_take (i := 7) rfl (by kernel_rfl) (by kernel_rfl) (by kernel_rfl) (fun _ _ _ h => nomatch h.1) (yields_pure (v := oT k d r) (by kernel_rfl) (fun _ => by kernel_rfl)) ⟨_, hs⟩ ?_
            refine wpAnyH_as (b := actO k q P d r b1 b2 b3 b4 b5 b6 (pt B12) (pt B17) undef (oT k d r) (pt q) (oP k d) (nn k) (sl B1) (oQ k) (ni r) (oT k d r) undef undef undef) (by kernel_rfl) ?_
            refine wpAnyH_take (i := 8) rfl (by kernel_rfl) (by kernel_rfl) (by kernel_rfl) (fun _ _ _ h => nomatch h.1) (yields_pure (v := oX k d r) (by kernel_rfl) (fun _ => by kernel_rfl)) ⟨_, hs⟩ ?_
            refine wpAnyH_as (b := actO k q P d r b1 b2 b3 b4 b5 b6 (pt B12) (pt B17) undef (oT k d r) (pt q) (oP k d) (nn k) (sl B1) (oQ k) (ni r) (oT k d r) (oX k d r) undef undef) (by kernel_rfl) ?_
            refine wpAnyH_take (i := 9) rfl (by kernel_rfl) (by kernel_rfl) (by kernel_rfl) (fun _ _ _ h => nomatch h.1) (yields_pure (v := oY k d r) (by kernel_rfl) (fun _ => by kernel_rfl)) ⟨_, hs⟩ ?_
            refine wpAnyH_as (b := actO k q P d r b1 b2 b3 b4 b5 b6 (pt B12) (pt B17) undef (oT k d r) (pt q) (oP k d) (nn k) (sl B1) (oQ k) (ni r) (oT k d r) (oX k d r) (oY k d r) undef) (by kernel_rfl) ?_
            refine wpAnyH_take (i := 10) rfl (by kernel_rfl) (by kernel_rfl) (by kernel_rfl) (fun _ _ _ h => nomatch h.1) (yields_pure (v := oZ k d r) (by kernel_rfl) (fun _ => by kernel_rfl)) ⟨_, hs⟩ ?_
            refine wpAnyH_as (b := actO k q P d r b1 b2 b3 b4 b5 b6 (pt B12) (pt B17) undef (oT k d r) (pt q) (oP k d) (nn k) (sl B1) (oQ k) (ni r) (oT k d r) (oX k d r) (oY k d r) (oZ k d r)) (by kernel_rfl) ?_
            refine wpAnyH_all (rs := [13]) (by kernel_rfl) (by simp) ?_
            intro i hi
            obtain rfl : i = 13 := by simpa using hi
            refine wpOp_store (by kernel_rfl) (by kernel_rfl) 79 (.tmp 9) (.tmp 55) B12 300 (updF (oneP k d) (oneR k) r) (fun _ => 0) 79 (by kernel_rfl) (by kernel_rfl) (by kernel_rfl) fD.blk covSize ?_
            replace hs := hs.row fD.lo fD.gt (rowA 300 (updF (oneP k d) (oneR k) r))
            replace fL := fL.otherRow (C := B12) (by omega) (rowA 300 (updF (oneP k d) (oneR k) r))
            replace fE := fE.otherRow (C := B12) (by omega) (rowA 300 (updF (oneP k d) (oneR k) r))
            replace fD := fD.set (r := (updF (oneP k d) (oneR k) r))
            refine ⟨⟨_, hs⟩, ?_⟩
            refine wpAnyH_all (rs := [14]) (by kernel_rfl) (by simp) ?_
            intro i hi
            obtain rfl : i = 14 := by simpa using hi
            refine wpOp_store (by kernel_rfl) (by kernel_rfl) 100 (.tmp 10) (.tmp 56) B17 24 (updK (oneP k d) (oneR k) r) (fun _ => 0) 100 (by kernel_rfl) (by kernel_rfl) (by kernel_rfl) fE.blk brSize ?_
            replace hs := hs.row fE.lo fE.gt (rowA 24 (updK (oneP k d) (oneR k) r))
            replace fL := fL.otherRow (C := B17) (by omega) (rowA 24 (updK (oneP k d) (oneR k) r))
            replace fD := fD.otherRow (C := B17) (by omega) (rowA 24 (updK (oneP k d) (oneR k) r))
            replace fE := fE.set (r := (updK (oneP k d) (oneR k) r))
            refine ⟨⟨_, hs⟩, ?_⟩
            refine wpAnyH_take (i := 15) rfl (by kernel_rfl) (by kernel_rfl) (by kernel_rfl) (fun _ _ _ h => nomatch h.1) (yields_pure (v := oZ k d r) (by kernel_rfl) (fun _ => by kernel_rfl)) ⟨_, hs⟩ ?_
            refine wpAnyH_as (b := actO k q P d r b1 b2 b3 b4 b5 b6 (pt B12) (pt B17) (oZ k d r) (oT k d r) (pt q) (oP k d) (nn k) (sl B1) (oQ k) (ni r) (oT k d r) (oX k d r) (oY k d r) (oZ k d r)) (by kernel_rfl) ?_
            refine wpAnyH_done (by kernel_rfl) ?_ _
            exact ⟨rfl, by kernel_rfl, B12, B17, by kernel_rfl, by kernel_rfl, by kernel_rfl, hs, fD, fE, by omega⟩
        · refine wpOp_value (by kernel_rfl) (by kernel_rfl) (w' := World.alloc W2 (.cells (rowA 24 fun _ => 0) 100)) (v := .pointer (some ⟨W2.heap.size, 0, none⟩)) (by rw [← zero24]; kernel_rfl) ?_
          have fE := hs.fresh 24 100
          have hneLE := Nat.ne_of_gt fL.blk.lt
          replace fL := fL.alloc (.cells (rowA 24 fun _ => 0) 100)
          replace hs := hs.alloc (.cells (rowA 24 fun _ => 0) 100)
          generalize World.alloc W2 _ = W21 at *
          generalize W2.heap.size = B21 at *
          refine ⟨⟨_, hs⟩, ?_⟩
          refine wpAnyH_as (b := actO k q P d r b1 b2 b3 b4 b5 b6 undef (pt B21) undef undef (pt q) (oP k d) (nn k) (sl B1) (oQ k) (ni r) undef undef undef undef) (by kernel_rfl) ?_
          refine wpAnyH_all (rs := [6, 11]) (by kernel_rfl) (by simp) ?_
          intro i hi
          simp only [List.mem_cons, List.not_mem_nil, or_false] at hi
          rcases hi with rfl | rfl
          · refine wpOp_call (by kernel_rfl) (by kernel_rfl) (by kernel_rfl) (upd_any q 0 (oneP k d) (oneR k) r _ _ (hs.F.fl fl)) ?_
            intro W22 k
            replace hs := hs.flag hpw k
            replace fL := fL.flag hpw k
            replace fE := fE.flag hpw k
            clear k
            refine ⟨⟨_, hs⟩, ?_⟩
            refine wpAnyH_as (b := actO k q P d r b1 b2 b3 b4 b5 b6 undef (pt B21) undef undef (pt q) (oP k d) (nn k) (sl B1) (oQ k) (ni r) (oT k d r) undef undef undef) (by kernel_rfl) ?_
            refine wpAnyH_take (i := 7) rfl (by kernel_rfl) (by kernel_rfl) (by kernel_rfl) (fun _ _ _ h => nomatch h.1) (yields_pure (v := oT k d r) (by kernel_rfl) (fun _ => by kernel_rfl)) ⟨_, hs⟩ ?_
            refine wpAnyH_as (b := actO k q P d r b1 b2 b3 b4 b5 b6 undef (pt B21) undef (oT k d r) (pt q) (oP k d) (nn k) (sl B1) (oQ k) (ni r) (oT k d r) undef undef undef) (by kernel_rfl) ?_
            refine wpAnyH_take (i := 8) rfl (by kernel_rfl) (by kernel_rfl) (by kernel_rfl) (fun _ _ _ h => nomatch h.1) (yields_pure (v := oX k d r) (by kernel_rfl) (fun _ => by kernel_rfl)) ⟨_, hs⟩ ?_
            refine wpAnyH_as (b := actO k q P d r b1 b2 b3 b4 b5 b6 undef (pt B21) undef (oT k d r) (pt q) (oP k d) (nn k) (sl B1) (oQ k) (ni r) (oT k d r) (oX k d r) undef undef) (by kernel_rfl) ?_
            refine wpAnyH_take (i := 9) rfl (by kernel_rfl) (by kernel_rfl) (by kernel_rfl) (fun _ _ _ h => nomatch h.1) (yields_pure (v := oY k d r) (by kernel_rfl) (fun _ => by kernel_rfl)) ⟨_, hs⟩ ?_
            refine wpAnyH_as (b := actO k q P d r b1 b2 b3 b4 b5 b6 undef (pt B21) undef (oT k d r) (pt q) (oP k d) (nn k) (sl B1) (oQ k) (ni r) (oT k d r) (oX k d r) (oY k d r) undef) (by kernel_rfl) ?_
            refine wpAnyH_take (i := 10) rfl (by kernel_rfl) (by kernel_rfl) (by kernel_rfl) (fun _ _ _ h => nomatch h.1) (yields_pure (v := oZ k d r) (by kernel_rfl) (fun _ => by kernel_rfl)) ⟨_, hs⟩ ?_
            refine wpAnyH_as (b := actO k q P d r b1 b2 b3 b4 b5 b6 undef (pt B21) undef (oT k d r) (pt q) (oP k d) (nn k) (sl B1) (oQ k) (ni r) (oT k d r) (oX k d r) (oY k d r) (oZ k d r)) (by kernel_rfl) ?_
            refine wpAnyH_all (rs := [11]) (by kernel_rfl) (by simp) ?_
            intro i hi
            obtain rfl : i = 11 := by simpa using hi
            refine wpOp_value (by kernel_rfl) (by kernel_rfl) (w' := World.alloc W22 (.cells (rowA 300 fun _ => 0) 79)) (v := .pointer (some ⟨W22.heap.size, 0, none⟩)) (by rw [← zeroCov]; kernel_rfl) ?_
            have fD := hs.fresh 300 79
            have hneLD := Nat.ne_of_gt fL.blk.lt
            replace fL := fL.alloc (.cells (rowA 300 fun _ => 0) 79)
            have hneED := Nat.ne_of_gt fE.blk.lt
            replace fE := fE.alloc (.cells (rowA 300 fun _ => 0) 79)
            replace hs := hs.alloc (.cells (rowA 300 fun _ => 0) 79)
            generalize World.alloc W22 _ = W23 at *
            generalize W22.heap.size = B23 at *
            refine ⟨⟨_, hs⟩, ?_⟩
            refine wpAnyH_as (b := actO k q P d r b1 b2 b3 b4 b5 b6 (pt B23) (pt B21) undef (oT k d r) (pt q) (oP k d) (nn k) (sl B1) (oQ k) (ni r) (oT k d r) (oX k d r) (oY k d r) (oZ k d r)) (by kernel_rfl) ?_
            refine wpAnyH_all (rs := [13]) (by kernel_rfl) (by simp) ?_
            intro i hi
            obtain rfl : i = 13 := by simpa using hi
            refine wpOp_store (by kernel_rfl) (by kernel_rfl) 79 (.tmp 9) (.tmp 55) B23 300 (updF (oneP k d) (oneR k) r) (fun _ => 0) 79 (by kernel_rfl) (by kernel_rfl) (by kernel_rfl) fD.blk covSize ?_
            replace hs := hs.row fD.lo fD.gt (rowA 300 (updF (oneP k d) (oneR k) r))
            replace fL := fL.otherRow (C := B23) (by omega) (rowA 300 (updF (oneP k d) (oneR k) r))
            replace fE := fE.otherRow (C := B23) (by omega) (rowA 300 (updF (oneP k d) (oneR k) r))
            replace fD := fD.set (r := (updF (oneP k d) (oneR k) r))
            refine ⟨⟨_, hs⟩, ?_⟩
            refine wpAnyH_all (rs := [14]) (by kernel_rfl) (by simp) ?_
            intro i hi
            obtain rfl : i = 14 := by simpa using hi
            refine wpOp_store (by kernel_rfl) (by kernel_rfl) 100 (.tmp 10) (.tmp 56) B21 24 (updK (oneP k d) (oneR k) r) (fun _ => 0) 100 (by kernel_rfl) (by kernel_rfl) (by kernel_rfl) fE.blk brSize ?_
            replace hs := hs.row fE.lo fE.gt (rowA 24 (updK (oneP k d) (oneR k) r))
            replace fL := fL.otherRow (C := B21) (by omega) (rowA 24 (updK (oneP k d) (oneR k) r))
            replace fD := fD.otherRow (C := B21) (by omega) (rowA 24 (updK (oneP k d) (oneR k) r))
            replace fE := fE.set (r := (updK (oneP k d) (oneR k) r))
            refine ⟨⟨_, hs⟩, ?_⟩
            refine wpAnyH_take (i := 15) rfl (by kernel_rfl) (by kernel_rfl) (by kernel_rfl) (fun _ _ _ h => nomatch h.1) (yields_pure (v := oZ k d r) (by kernel_rfl) (fun _ => by kernel_rfl)) ⟨_, hs⟩ ?_
            refine wpAnyH_as (b := actO k q P d r b1 b2 b3 b4 b5 b6 (pt B23) (pt B21) (oZ k d r) (oT k d r) (pt q) (oP k d) (nn k) (sl B1) (oQ k) (ni r) (oT k d r) (oX k d r) (oY k d r) (oZ k d r)) (by kernel_rfl) ?_
            refine wpAnyH_done (by kernel_rfl) ?_ _
            exact ⟨rfl, by kernel_rfl, B23, B21, by kernel_rfl, by kernel_rfl, by kernel_rfl, hs, fD, fE, by omega⟩
          · refine wpOp_value (by kernel_rfl) (by kernel_rfl) (w' := World.alloc W21 (.cells (rowA 300 fun _ => 0) 79)) (v := .pointer (some ⟨W21.heap.size, 0, none⟩)) (by rw [← zeroCov]; kernel_rfl) ?_
            have fD := hs.fresh 300 79
            have hneLD := Nat.ne_of_gt fL.blk.lt
            replace fL := fL.alloc (.cells (rowA 300 fun _ => 0) 79)
            have hneED := Nat.ne_of_gt fE.blk.lt
            replace fE := fE.alloc (.cells (rowA 300 fun _ => 0) 79)
            replace hs := hs.alloc (.cells (rowA 300 fun _ => 0) 79)
            generalize World.alloc W21 _ = W26 at *
            generalize W21.heap.size = B26 at *
            refine ⟨⟨_, hs⟩, ?_⟩
            refine wpAnyH_as (b := actO k q P d r b1 b2 b3 b4 b5 b6 (pt B26) (pt B21) undef undef (pt q) (oP k d) (nn k) (sl B1) (oQ k) (ni r) undef undef undef undef) (by kernel_rfl) ?_
            refine wpAnyH_all (rs := [6]) (by kernel_rfl) (by simp) ?_
            intro i hi
            obtain rfl : i = 6 := by simpa using hi
            refine wpOp_call (by kernel_rfl) (by kernel_rfl) (by kernel_rfl) (upd_any q 0 (oneP k d) (oneR k) r _ _ (hs.F.fl fl)) ?_
            intro W27 k
            replace hs := hs.flag hpw k
            replace fL := fL.flag hpw k
            replace fE := fE.flag hpw k
            replace fD := fD.flag hpw k
            clear k
            refine ⟨⟨_, hs⟩, ?_⟩
            refine wpAnyH_as (b := actO k q P d r b1 b2 b3 b4 b5 b6 (pt B26) (pt B21) undef undef (pt q) (oP k d) (nn k) (sl B1) (oQ k) (ni r) (oT k d r) undef undef undef) (by kernel_rfl) ?_
            refine wpAnyH_take (i := 7) rfl (by kernel_rfl) (by kernel_rfl) (by kernel_rfl) (fun _ _ _ h => nomatch h.1) (yields_pure (v := oT k d r) (by kernel_rfl) (fun _ => by kernel_rfl)) ⟨_, hs⟩ ?_
            refine wpAnyH_as (b := actO k q P d r b1 b2 b3 b4 b5 b6 (pt B26) (pt B21) undef (oT k d r) (pt q) (oP k d) (nn k) (sl B1) (oQ k) (ni r) (oT k d r) undef undef undef) (by kernel_rfl) ?_
            refine wpAnyH_take (i := 8) rfl (by kernel_rfl) (by kernel_rfl) (by kernel_rfl) (fun _ _ _ h => nomatch h.1) (yields_pure (v := oX k d r) (by kernel_rfl) (fun _ => by kernel_rfl)) ⟨_, hs⟩ ?_
            refine wpAnyH_as (b := actO k q P d r b1 b2 b3 b4 b5 b6 (pt B26) (pt B21) undef (oT k d r) (pt q) (oP k d) (nn k) (sl B1) (oQ k) (ni r) (oT k d r) (oX k d r) undef undef) (by kernel_rfl) ?_
            refine wpAnyH_take (i := 9) rfl (by kernel_rfl) (by kernel_rfl) (by kernel_rfl) (fun _ _ _ h => nomatch h.1) (yields_pure (v := oY k d r) (by kernel_rfl) (fun _ => by kernel_rfl)) ⟨_, hs⟩ ?_
            refine wpAnyH_as (b := actO k q P d r b1 b2 b3 b4 b5 b6 (pt B26) (pt B21) undef (oT k d r) (pt q) (oP k d) (nn k) (sl B1) (oQ k) (ni r) (oT k d r) (oX k d r) (oY k d r) undef) (by kernel_rfl) ?_
            refine wpAnyH_take (i := 10) rfl (by kernel_rfl) (by kernel_rfl) (by kernel_rfl) (fun _ _ _ h => nomatch h.1) (yields_pure (v := oZ k d r) (by kernel_rfl) (fun _ => by kernel_rfl)) ⟨_, hs⟩ ?_
            refine wpAnyH_as (b := actO k q P d r b1 b2 b3 b4 b5 b6 (pt B26) (pt B21) undef (oT k d r) (pt q) (oP k d) (nn k) (sl B1) (oQ k) (ni r) (oT k d r) (oX k d r) (oY k d r) (oZ k d r)) (by kernel_rfl) ?_
            refine wpAnyH_all (rs := [13]) (by kernel_rfl) (by simp) ?_
            intro i hi
            obtain rfl : i = 13 := by simpa using hi
            refine wpOp_store (by kernel_rfl) (by kernel_rfl) 79 (.tmp 9) (.tmp 55) B26 300 (updF (oneP k d) (oneR k) r) (fun _ => 0) 79 (by kernel_rfl) (by kernel_rfl) (by kernel_rfl) fD.blk covSize ?_
            replace hs := hs.row fD.lo fD.gt (rowA 300 (updF (oneP k d) (oneR k) r))
            replace fL := fL.otherRow (C := B26) (by omega) (rowA 300 (updF (oneP k d) (oneR k) r))
            replace fE := fE.otherRow (C := B26) (by omega) (rowA 300 (updF (oneP k d) (oneR k) r))
            replace fD := fD.set (r := (updF (oneP k d) (oneR k) r))
            refine ⟨⟨_, hs⟩, ?_⟩
            refine wpAnyH_all (rs := [14]) (by kernel_rfl) (by simp) ?_
            intro i hi
            obtain rfl : i = 14 := by simpa using hi
            refine wpOp_store (by kernel_rfl) (by kernel_rfl) 100 (.tmp 10) (.tmp 56) B21 24 (updK (oneP k d) (oneR k) r) (fun _ => 0) 100 (by kernel_rfl) (by kernel_rfl) (by kernel_rfl) fE.blk brSize ?_
            replace hs := hs.row fE.lo fE.gt (rowA 24 (updK (oneP k d) (oneR k) r))
            replace fL := fL.otherRow (C := B21) (by omega) (rowA 24 (updK (oneP k d) (oneR k) r))
            replace fD := fD.otherRow (C := B21) (by omega) (rowA 24 (updK (oneP k d) (oneR k) r))
            replace fE := fE.set (r := (updK (oneP k d) (oneR k) r))
            refine ⟨⟨_, hs⟩, ?_⟩
            refine wpAnyH_take (i := 15) rfl (by kernel_rfl) (by kernel_rfl) (by kernel_rfl) (fun _ _ _ h => nomatch h.1) (yields_pure (v := oZ k d r) (by kernel_rfl) (fun _ => by kernel_rfl)) ⟨_, hs⟩ ?_
            refine wpAnyH_as (b := actO k q P d r b1 b2 b3 b4 b5 b6 (pt B26) (pt B21) (oZ k d r) (oT k d r) (pt q) (oP k d) (nn k) (sl B1) (oQ k) (ni r) (oT k d r) (oX k d r) (oY k d r) (oZ k d r)) (by kernel_rfl) ?_
            refine wpAnyH_done (by kernel_rfl) ?_ _
            exact ⟨rfl, by kernel_rfl, B26, B21, by kernel_rfl, by kernel_rfl, by kernel_rfl, hs, fD, fE, by omega⟩
      · refine wpOp_value (by kernel_rfl) (by kernel_rfl) (w' := World.alloc W1 (.cells (rowA 300 fun _ => 0) 79)) (v := .pointer (some ⟨W1.heap.size, 0, none⟩)) (by rw [← zeroCov]; kernel_rfl) ?_
        have fD := hs.fresh 300 79
        have hneLD := Nat.ne_of_gt fL.blk.lt
        replace fL := fL.alloc (.cells (rowA 300 fun _ => 0) 79)
        replace hs := hs.alloc (.cells (rowA 300 fun _ => 0) 79)
        generalize World.alloc W1 _ = W30 at *
        generalize W1.heap.size = B30 at *
        refine ⟨⟨_, hs⟩, ?_⟩
        refine wpAnyH_as (b := actO k q P d r b1 b2 b3 b4 b5 b6 (pt B30) undef undef undef (pt q) (oP k d) (nn k) (sl B1) undef (ni r) undef undef undef undef) (by kernel_rfl) ?_
        refine wpAnyH_all (rs := [4, 12]) (by kernel_rfl) (by simp) ?_
        intro i hi
        simp only [List.mem_cons, List.not_mem_nil, or_false] at hi
        rcases hi with rfl | rfl
        · refine wpOp_call (by kernel_rfl) (by kernel_rfl) (by kernel_rfl) (pick_one _ k hk _ fL.blk) ?_
          intro W31 k
          replace hs := hs.call k
          replace fL := fL.call k
          replace fD := fD.call k
          clear k
          refine ⟨⟨_, hs⟩, ?_⟩
          refine wpAnyH_as (b := actO k q P d r b1 b2 b3 b4 b5 b6 (pt B30) undef undef undef (pt q) (oP k d) (nn k) (sl B1) (oQ k) (ni r) undef undef undef undef) (by kernel_rfl) ?_
          refine wpAnyH_all (rs := [6, 12]) (by kernel_rfl) (by simp) ?_
          intro i hi
          simp only [List.mem_cons, List.not_mem_nil, or_false] at hi
          rcases hi with rfl | rfl
          · refine wpOp_call (by kernel_rfl) (by kernel_rfl) (by kernel_rfl) (upd_any q 0 (oneP k d) (oneR k) r _ _ (hs.F.fl fl)) ?_
            intro W32 k
            replace hs := hs.flag hpw k
            replace fL := fL.flag hpw k
            replace fD := fD.flag hpw k
            clear k
            refine ⟨⟨_, hs⟩, ?_⟩
            refine wpAnyH_as (b := actO k q P d r b1 b2 b3 b4 b5 b6 (pt B30) undef undef undef (pt q) (oP k d) (nn k) (sl B1) (oQ k) (ni r) (oT k d r) undef undef undef) (by kernel_rfl) ?_
            refine wpAnyH_take (i := 7) rfl (by kernel_rfl) (by kernel_rfl) (by kernel_rfl) (fun _ _ _ h => nomatch h.1) (yields_pure (v := oT k d r) (by kernel_rfl) (fun _ => by kernel_rfl)) ⟨_, hs⟩ ?_
            refine wpAnyH_as (b := actO k q P d r b1 b2 b3 b4 b5 b6 (pt B30) undef undef (oT k d r) (pt q) (oP k d) (nn k) (sl B1) (oQ k) (ni r) (oT k d r) undef undef undef) (by kernel_rfl) ?_
            refine wpAnyH_take (i := 8) rfl (by kernel_rfl) (by kernel_rfl) (by kernel_rfl) (fun _ _ _ h => nomatch h.1) (yields_pure (v := oX k d r) (by kernel_rfl) (fun _ => by kernel_rfl)) ⟨_, hs⟩ ?_
            refine wpAnyH_as (b := actO k q P d r b1 b2 b3 b4 b5 b6 (pt B30) undef undef (oT k d r) (pt q) (oP k d) (nn k) (sl B1) (oQ k) (ni r) (oT k d r) (oX k d r) undef undef) (by kernel_rfl) ?_
            refine wpAnyH_take (i := 9) rfl (by kernel_rfl) (by kernel_rfl) (by kernel_rfl) (fun _ _ _ h => nomatch h.1) (yields_pure (v := oY k d r) (by kernel_rfl) (fun _ => by kernel_rfl)) ⟨_, hs⟩ ?_
            refine wpAnyH_as (b := actO k q P d r b1 b2 b3 b4 b5 b6 (pt B30) undef undef (oT k d r) (pt q) (oP k d) (nn k) (sl B1) (oQ k) (ni r) (oT k d r) (oX k d r) (oY k d r) undef) (by kernel_rfl) ?_
            refine wpAnyH_take (i := 10) rfl (by kernel_rfl) (by kernel_rfl) (by kernel_rfl) (fun _ _ _ h => nomatch h.1) (yields_pure (v := oZ k d r) (by kernel_rfl) (fun _ => by kernel_rfl)) ⟨_, hs⟩ ?_
            refine wpAnyH_as (b := actO k q P d r b1 b2 b3 b4 b5 b6 (pt B30) undef undef (oT k d r) (pt q) (oP k d) (nn k) (sl B1) (oQ k) (ni r) (oT k d r) (oX k d r) (oY k d r) (oZ k d r)) (by kernel_rfl) ?_
            refine wpAnyH_all (rs := [12]) (by kernel_rfl) (by simp) ?_
            intro i hi
            obtain rfl : i = 12 := by simpa using hi
            refine wpOp_value (by kernel_rfl) (by kernel_rfl) (w' := World.alloc W32 (.cells (rowA 24 fun _ => 0) 100)) (v := .pointer (some ⟨W32.heap.size, 0, none⟩)) (by rw [← zero24]; kernel_rfl) ?_
            have fE := hs.fresh 24 100
            have hneLE := Nat.ne_of_gt fL.blk.lt
            replace fL := fL.alloc (.cells (rowA 24 fun _ => 0) 100)
            have hneDE := Nat.ne_of_gt fD.blk.lt
            replace fD := fD.alloc (.cells (rowA 24 fun _ => 0) 100)
            replace hs := hs.alloc (.cells (rowA 24 fun _ => 0) 100)
            generalize World.alloc W32 _ = W33 at *
            generalize W32.heap.size = B33 at *
            refine ⟨⟨_, hs⟩, ?_⟩
            refine wpAnyH_as (b := actO k q P d r b1 b2 b3 b4 b5 b6 (pt B30) (pt B33) undef (oT k d r) (pt q) (oP k d) (nn k) (sl B1) (oQ k) (ni r) (oT k d r) (oX k d r) (oY k d r) (oZ k d r)) (by kernel_rfl) ?_
            refine wpAnyH_all (rs := [13]) (by kernel_rfl) (by simp) ?_
            intro i hi
            obtain rfl : i = 13 := by simpa using hi
            refine wpOp_store (by kernel_rfl) (by kernel_rfl) 79 (.tmp 9) (.tmp 55) B30 300 (updF (oneP k d) (oneR k) r) (fun _ => 0) 79 (by kernel_rfl) (by kernel_rfl) (by kernel_rfl) fD.blk covSize ?_
            replace hs := hs.row fD.lo fD.gt (rowA 300 (updF (oneP k d) (oneR k) r))
            replace fL := fL.otherRow (C := B30) (by omega) (rowA 300 (updF (oneP k d) (oneR k) r))
            replace fE := fE.otherRow (C := B30) (by omega) (rowA 300 (updF (oneP k d) (oneR k) r))
            replace fD := fD.set (r := (updF (oneP k d) (oneR k) r))
            refine ⟨⟨_, hs⟩, ?_⟩
            refine wpAnyH_all (rs := [14]) (by kernel_rfl) (by simp) ?_
            intro i hi
            obtain rfl : i = 14 := by simpa using hi
            refine wpOp_store (by kernel_rfl) (by kernel_rfl) 100 (.tmp 10) (.tmp 56) B33 24 (updK (oneP k d) (oneR k) r) (fun _ => 0) 100 (by kernel_rfl) (by kernel_rfl) (by kernel_rfl) fE.blk brSize ?_
            replace hs := hs.row fE.lo fE.gt (rowA 24 (updK (oneP k d) (oneR k) r))
            replace fL := fL.otherRow (C := B33) (by omega) (rowA 24 (updK (oneP k d) (oneR k) r))
            replace fD := fD.otherRow (C := B33) (by omega) (rowA 24 (updK (oneP k d) (oneR k) r))
            replace fE := fE.set (r := (updK (oneP k d) (oneR k) r))
            refine ⟨⟨_, hs⟩, ?_⟩
            refine wpAnyH_take (i := 15) rfl (by kernel_rfl) (by kernel_rfl) (by kernel_rfl) (fun _ _ _ h => nomatch h.1) (yields_pure (v := oZ k d r) (by kernel_rfl) (fun _ => by kernel_rfl)) ⟨_, hs⟩ ?_
            refine wpAnyH_as (b := actO k q P d r b1 b2 b3 b4 b5 b6 (pt B30) (pt B33) (oZ k d r) (oT k d r) (pt q) (oP k d) (nn k) (sl B1) (oQ k) (ni r) (oT k d r) (oX k d r) (oY k d r) (oZ k d r)) (by kernel_rfl) ?_
            refine wpAnyH_done (by kernel_rfl) ?_ _
            exact ⟨rfl, by kernel_rfl, B30, B33, by kernel_rfl, by kernel_rfl, by kernel_rfl, hs, fD, fE, by omega⟩
          · refine wpOp_value (by kernel_rfl) (by kernel_rfl) (w' := World.alloc W31 (.cells (rowA 24 fun _ => 0) 100)) (v := .pointer (some ⟨W31.heap.size, 0, none⟩)) (by rw [← zero24]; kernel_rfl) ?_
            have fE := hs.fresh 24 100
            have hneLE := Nat.ne_of_gt fL.blk.lt
            replace fL := fL.alloc (.cells (rowA 24 fun _ => 0) 100)
            have hneDE := Nat.ne_of_gt fD.blk.lt
            replace fD := fD.alloc (.cells (rowA 24 fun _ => 0) 100)
            replace hs := hs.alloc (.cells (rowA 24 fun _ => 0) 100)
            generalize World.alloc W31 _ = W36 at *
            generalize W31.heap.size = B36 at *
            refine ⟨⟨_, hs⟩, ?_⟩
            refine wpAnyH_as (b := actO k q P d r b1 b2 b3 b4 b5 b6 (pt B30) (pt B36) undef undef (pt q) (oP k d) (nn k) (sl B1) (oQ k) (ni r) undef undef undef undef) (by kernel_rfl) ?_
            refine wpAnyH_all (rs := [6]) (by kernel_rfl) (by simp) ?_
            intro i hi
            obtain rfl : i = 6 := by simpa using hi
            refine wpOp_call (by kernel_rfl) (by kernel_rfl) (by kernel_rfl) (upd_any q 0 (oneP k d) (oneR k) r _ _ (hs.F.fl fl)) ?_
            intro W37 k
            replace hs := hs.flag hpw k
            replace fL := fL.flag hpw k
            replace fD := fD.flag hpw k
            replace fE := fE.flag hpw k
            clear k
            refine ⟨⟨_, hs⟩, ?_⟩
            refine wpAnyH_as (b := actO k q P d r b1 b2 b3 b4 b5 b6 (pt B30) (pt B36) undef undef (pt q) (oP k d) (nn k) (sl B1) (oQ k) (ni r) (oT k d r) undef undef undef) (by kernel_rfl) ?_
            refine wpAnyH_take (i := 7) rfl (by kernel_rfl) (by kernel_rfl) (by kernel_rfl) (fun _ _ _ h => nomatch h.1) (yields_pure (v := oT k d r) (by kernel_rfl) (fun _ => by kernel_rfl)) ⟨_, hs⟩ ?_
            refine wpAnyH_as (b := actO k q P d r b1 b2 b3 b4 b5 b6 (pt B30) (pt B36) undef (oT k d r) (pt q) (oP k d) (nn k) (sl B1) (oQ k) (ni r) (oT k d r) undef undef undef) (by kernel_rfl) ?_
            refine wpAnyH_take (i := 8) rfl (by kernel_rfl) (by kernel_rfl) (by kernel_rfl) (fun _ _ _ h => nomatch h.1) (yields_pure (v := oX k d r) (by kernel_rfl) (fun _ => by kernel_rfl)) ⟨_, hs⟩ ?_
            refine wpAnyH_as (b := actO k q P d r b1 b2 b3 b4 b5 b6 (pt B30) (pt B36) undef (oT k d r) (pt q) (oP k d) (nn k) (sl B1) (oQ k) (ni r) (oT k d r) (oX k d r) undef undef) (by kernel_rfl) ?_
            refine wpAnyH_take (i := 9) rfl (by kernel_rfl) (by kernel_rfl) (by kernel_rfl) (fun _ _ _ h => nomatch h.1) (yields_pure (v := oY k d r) (by kernel_rfl) (fun _ => by kernel_rfl)) ⟨_, hs⟩ ?_
            refine wpAnyH_as (b := actO k q P d r b1 b2 b3 b4 b5 b6 (pt B30) (pt B36) undef (oT k d r) (pt q) (oP k d) (nn k) (sl B1) (oQ k) (ni r) (oT k d r) (oX k d r) (oY k d r) undef) (by kernel_rfl) ?_
            refine wpAnyH_take (i := 10) rfl (by kernel_rfl) (by kernel_rfl) (by kernel_rfl) (fun _ _ _ h => nomatch h.1) (yields_pure (v := oZ k d r) (by kernel_rfl) (fun _ => by kernel_rfl)) ⟨_, hs⟩ ?_
            refine wpAnyH_as (b := actO k q P d r b1 b2 b3 b4 b5 b6 (pt B30) (pt B36) undef (oT k d r) (pt q) (oP k d) (nn k) (sl B1) (oQ k) (ni r) (oT k d r) (oX k d r) (oY k d r) (oZ k d r)) (by kernel_rfl) ?_
            refine wpAnyH_all (rs := [13]) (by kernel_rfl) (by simp) ?_
            intro i hi
            obtain rfl : i = 13 := by simpa using hi
            refine wpOp_store (by kernel_rfl) (by kernel_rfl) 79 (.tmp 9) (.tmp 55) B30 300 (updF (oneP k d) (oneR k) r) (fun _ => 0) 79 (by kernel_rfl) (by kernel_rfl) (by kernel_rfl) fD.blk covSize ?_
            replace hs := hs.row fD.lo fD.gt (rowA 300 (updF (oneP k d) (oneR k) r))
            replace fL := fL.otherRow (C := B30) (by omega) (rowA 300 (updF (oneP k d) (oneR k) r))
            replace fE := fE.otherRow (C := B30) (by omega) (rowA 300 (updF (oneP k d) (oneR k) r))
            replace fD := fD.set (r := (updF (oneP k d) (oneR k) r))
            refine ⟨⟨_, hs⟩, ?_⟩
            refine wpAnyH_all (rs := [14]) (by kernel_rfl) (by simp) ?_
            intro i hi
            obtain rfl : i = 14 := by simpa using hi
            refine wpOp_store (by kernel_rfl) (by kernel_rfl) 100 (.tmp 10) (.tmp 56) B36 24 (updK (oneP k d) (oneR k) r) (fun _ => 0) 100 (by kernel_rfl) (by kernel_rfl) (by kernel_rfl) fE.blk brSize ?_
            replace hs := hs.row fE.lo fE.gt (rowA 24 (updK (oneP k d) (oneR k) r))
            replace fL := fL.otherRow (C := B36) (by omega) (rowA 24 (updK (oneP k d) (oneR k) r))
            replace fD := fD.otherRow (C := B36) (by omega) (rowA 24 (updK (oneP k d) (oneR k) r))
            replace fE := fE.set (r := (updK (oneP k d) (oneR k) r))
            refine ⟨⟨_, hs⟩, ?_⟩
            refine wpAnyH_take (i := 15) rfl (by kernel_rfl) (by kernel_rfl) (by kernel_rfl) (fun _ _ _ h => nomatch h.1) (yields_pure (v := oZ k d r) (by kernel_rfl) (fun _ => by kernel_rfl)) ⟨_, hs⟩ ?_
            refine wpAnyH_as (b := actO k q P d r b1 b2 b3 b4 b5 b6 (pt B30) (pt B36) (oZ k d r) (oT k d r) (pt q) (oP k d) (nn k) (sl B1) (oQ k) (ni r) (oT k d r) (oX k d r) (oY k d r) (oZ k d r)) (by kernel_rfl) ?_
            refine wpAnyH_done (by kernel_rfl) ?_ _
            exact ⟨rfl, by kernel_rfl, B30, B36, by kernel_rfl, by kernel_rfl, by kernel_rfl, hs, fD, fE, by omega⟩
        · refine wpOp_value (by kernel_rfl) (by kernel_rfl) (w' := World.alloc W30 (.cells (rowA 24 fun _ => 0) 100)) (v := .pointer (some ⟨W30.heap.size, 0, none⟩)) (by rw [← zero24]; kernel_rfl) ?_
          have fE := hs.fresh 24 100
          have hneLE := Nat.ne_of_gt fL.blk.lt
          replace fL := fL.alloc (.cells (rowA 24 fun _ => 0) 100)
          have hneDE := Nat.ne_of_gt fD.blk.lt
          replace fD := fD.alloc (.cells (rowA 24 fun _ => 0) 100)
          replace hs := hs.alloc (.cells (rowA 24 fun _ => 0) 100)
          generalize World.alloc W30 _ = W40 at *
          generalize W30.heap.size = B40 at *
          refine ⟨⟨_, hs⟩, ?_⟩
          refine wpAnyH_as (b := actO k q P d r b1 b2 b3 b4 b5 b6 (pt B30) (pt B40) undef undef (pt q) (oP k d) (nn k) (sl B1) undef (ni r) undef undef undef undef) (by kernel_rfl) ?_
          refine wpAnyH_all (rs := [4]) (by kernel_rfl) (by simp) ?_
          intro i hi
          obtain rfl : i = 4 := by simpa using hi
          refine wpOp_call (by kernel_rfl) (by kernel_rfl) (by kernel_rfl) (pick_one _ k hk _ fL.blk) ?_
          intro W41 k
          replace hs := hs.call k
          replace fL := fL.call k
          replace fD := fD.call k
          replace fE := fE.call k
          clear k
          refine ⟨⟨_, hs⟩, ?_⟩
          refine wpAnyH_as (b := actO k q P d r b1 b2 b3 b4 b5 b6 (pt B30) (pt B40) undef undef (pt q) (oP k d) (nn k) (sl B1) (oQ k) (ni r) undef undef undef undef) (by kernel_rfl) ?_
          refine wpAnyH_all (rs := [6]) (by kernel_rfl) (by simp) ?_
          intro i hi
          obtain rfl : i = 6 := by simpa using hi
          refine wpOp_call (by kernel_rfl) (by kernel_rfl) (by kernel_rfl) (upd_any q 0 (oneP k d) (oneR k) r _ _ (hs.F.fl fl)) ?_
          intro W42 k
          replace hs := hs.flag hpw k
          replace fL := fL.flag hpw k
          replace fD := fD.flag hpw k
          replace fE := fE.flag hpw k
          clear k
          refine ⟨⟨_, hs⟩, ?_⟩
          refine wpAnyH_as (b := actO k q P d r b1 b2 b3 b4 b5 b6 (pt B30) (pt B40) undef undef (pt q) (oP k d) (nn k) (sl B1) (oQ k) (ni r) (oT k d r) undef undef undef) (by kernel_rfl) ?_
          refine wpAnyH_take (i := 7) rfl (by kernel_rfl) (by kernel_rfl) (by kernel_rfl) (fun _ _ _ h => nomatch h.1) (yields_pure (v := oT k d r) (by kernel_rfl) (fun _ => by kernel_rfl)) ⟨_, hs⟩ ?_
          refine wpAnyH_as (b := actO k q P d r b1 b2 b3 b4 b5 b6 (pt B30) (pt B40) undef (oT k d r) (pt q) (oP k d) (nn k) (sl B1) (oQ k) (ni r) (oT k d r) undef undef undef) (by kernel_rfl) ?_
          refine wpAnyH_take (i := 8) rfl (by kernel_rfl) (by kernel_rfl) (by kernel_rfl) (fun _ _ _ h => nomatch h.1) (yields_pure (v := oX k d r) (by kernel_rfl) (fun _ => by kernel_rfl)) ⟨_, hs⟩ ?_
          refine wpAnyH_as (b := actO k q P d r b1 b2 b3 b4 b5 b6 (pt B30) (pt B40) undef (oT k d r) (pt q) (oP k d) (nn k) (sl B1) (oQ k) (ni r) (oT k d r) (oX k d r) undef undef) (by kernel_rfl) ?_
          refine wpAnyH_take (i := 9) rfl (by kernel_rfl) (by kernel_rfl) (by kernel_rfl) (fun _ _ _ h => nomatch h.1) (yields_pure (v := oY k d r) (by kernel_rfl) (fun _ => by kernel_rfl)) ⟨_, hs⟩ ?_
          refine wpAnyH_as (b := actO k q P d r b1 b2 b3 b4 b5 b6 (pt B30) (pt B40) undef (oT k d r) (pt q) (oP k d) (nn k) (sl B1) (oQ k) (ni r) (oT k d r) (oX k d r) (oY k d r) undef) (by kernel_rfl) ?_
          refine wpAnyH_take (i := 10) rfl (by kernel_rfl) (by kernel_rfl) (by kernel_rfl) (fun _ _ _ h => nomatch h.1) (yields_pure (v := oZ k d r) (by kernel_rfl) (fun _ => by kernel_rfl)) ⟨_, hs⟩ ?_
          refine wpAnyH_as (b := actO k q P d r b1 b2 b3 b4 b5 b6 (pt B30) (pt B40) undef (oT k d r) (pt q) (oP k d) (nn k) (sl B1) (oQ k) (ni r) (oT k d r) (oX k d r) (oY k d r) (oZ k d r)) (by kernel_rfl) ?_
          refine wpAnyH_all (rs := [13]) (by kernel_rfl) (by simp) ?_
          intro i hi
          obtain rfl : i = 13 := by simpa using hi
          refine wpOp_store (by kernel_rfl) (by kernel_rfl) 79 (.tmp 9) (.tmp 55) B30 300 (updF (oneP k d) (oneR k) r) (fun _ => 0) 79 (by kernel_rfl) (by kernel_rfl) (by kernel_rfl) fD.blk covSize ?_
          replace hs := hs.row fD.lo fD.gt (rowA 300 (updF (oneP k d) (oneR k) r))
          replace fL := fL.otherRow (C := B30) (by omega) (rowA 300 (updF (oneP k d) (oneR k) r))
          replace fE := fE.otherRow (C := B30) (by omega) (rowA 300 (updF (oneP k d) (oneR k) r))
          replace fD := fD.set (r := (updF (oneP k d) (oneR k) r))
          refine ⟨⟨_, hs⟩, ?_⟩
          refine wpAnyH_all (rs := [14]) (by kernel_rfl) (by simp) ?_
          intro i hi
          obtain rfl : i = 14 := by simpa using hi
          refine wpOp_store (by kernel_rfl) (by kernel_rfl) 100 (.tmp 10) (.tmp 56) B40 24 (updK (oneP k d) (oneR k) r) (fun _ => 0) 100 (by kernel_rfl) (by kernel_rfl) (by kernel_rfl) fE.blk brSize ?_
          replace hs := hs.row fE.lo fE.gt (rowA 24 (updK (oneP k d) (oneR k) r))
          replace fL := fL.otherRow (C := B40) (by omega) (rowA 24 (updK (oneP k d) (oneR k) r))
          replace fD := fD.otherRow (C := B40) (by omega) (rowA 24 (updK (oneP k d) (oneR k) r))
          replace fE := fE.set (r := (updK (oneP k d) (oneR k) r))
          refine ⟨⟨_, hs⟩, ?_⟩
          refine wpAnyH_take (i := 15) rfl (by kernel_rfl) (by kernel_rfl) (by kernel_rfl) (fun _ _ _ h => nomatch h.1) (yields_pure (v := oZ k d r) (by kernel_rfl) (fun _ => by kernel_rfl)) ⟨_, hs⟩ ?_
          refine wpAnyH_as (b := actO k q P d r b1 b2 b3 b4 b5 b6 (pt B30) (pt B40) (oZ k d r) (oT k d r) (pt q) (oP k d) (nn k) (sl B1) (oQ k) (ni r) (oT k d r) (oX k d r) (oY k d r) (oZ k d r)) (by kernel_rfl) ?_
          refine wpAnyH_done (by kernel_rfl) ?_ _
          exact ⟨rfl, by kernel_rfl, B30, B40, by kernel_rfl, by kernel_rfl, by kernel_rfl, hs, fD, fE, by omega⟩
      · refine wpOp_value (by kernel_rfl) (by kernel_rfl) (w' := World.alloc W1 (.cells (rowA 24 fun _ => 0) 100)) (v := .pointer (some ⟨W1.heap.size, 0, none⟩)) (by rw [← zero24]; kernel_rfl) ?_
        have fE := hs.fresh 24 100
        have hneLE := Nat.ne_of_gt fL.blk.lt
        replace fL := fL.alloc (.cells (rowA 24 fun _ => 0) 100)
        replace hs := hs.alloc (.cells (rowA 24 fun _ => 0) 100)
        generalize World.alloc W1 _ = W45 at *
        generalize W1.heap.size = B45 at *
        refine ⟨⟨_, hs⟩, ?_⟩
        refine wpAnyH_as (b := actO k q P d r b1 b2 b3 b4 b5 b6 undef (pt B45) undef undef (pt q) (oP k d) (nn k) (sl B1) undef (ni r) undef undef undef undef) (by kernel_rfl) ?_
        refine wpAnyH_all (rs := [4, 11]) (by kernel_rfl) (by simp) ?_
        intro i hi
        simp only [List.mem_cons, List.not_mem_nil, or_false] at hi
        rcases hi with rfl | rfl
        · refine wpOp_call (by kernel_rfl) (by kernel_rfl) (by kernel_rfl) (pick_one _ k hk _ fL.blk) ?_
          intro W46 k
          replace hs := hs.call k
          replace fL := fL.call k
          replace fE := fE.call k
          clear k
          refine ⟨⟨_, hs⟩, ?_⟩
          refine wpAnyH_as (b := actO k q P d r b1 b2 b3 b4 b5 b6 undef (pt B45) undef undef (pt q) (oP k d) (nn k) (sl B1) (oQ k) (ni r) undef undef undef undef) (by kernel_rfl) ?_
          refine wpAnyH_all (rs := [6, 11]) (by kernel_rfl) (by simp) ?_
          intro i hi
          simp only [List.mem_cons, List.not_mem_nil, or_false] at hi
          rcases hi with rfl | rfl
          · refine wpOp_call (by kernel_rfl) (by kernel_rfl) (by kernel_rfl) (upd_any q 0 (oneP k d) (oneR k) r _ _ (hs.F.fl fl)) ?_
            intro W47 k
            replace hs := hs.flag hpw k
            replace fL := fL.flag hpw k
            replace fE := fE.flag hpw k
            clear k
            refine ⟨⟨_, hs⟩, ?_⟩
            refine wpAnyH_as (b := actO k q P d r b1 b2 b3 b4 b5 b6 undef (pt B45) undef undef (pt q) (oP k d) (nn k) (sl B1) (oQ k) (ni r) (oT k d r) undef undef undef) (by kernel_rfl) ?_
            refine wpAnyH_take (i := 7) rfl (by kernel_rfl) (by kernel_rfl) (by kernel_rfl) (fun _ _ _ h => nomatch h.1) (yields_pure (v := oT k d r) (by kernel_rfl) (fun _ => by kernel_rfl)) ⟨_, hs⟩ ?_
            refine wpAnyH_as (b := actO k q P d r b1 b2 b3 b4 b5 b6 undef (pt B45) undef (oT k d r) (pt q) (oP k d) (nn k) (sl B1) (oQ k) (ni r) (oT k d r) undef undef undef) (by kernel_rfl) ?_
            refine wpAnyH_take (i := 8) rfl (by kernel_rfl) (by kernel_rfl) (by kernel_rfl) (fun _ _ _ h => nomatch h.1) (yields_pure (v := oX k d r) (by kernel_rfl) (fun _ => by kernel_rfl)) ⟨_, hs⟩ ?_
            refine wpAnyH_as (b := actO k q P d r b1 b2 b3 b4 b5 b6 undef (pt B45) undef (oT k d r) (pt q) (oP k d) (nn k) (sl B1) (oQ k) (ni r) (oT k d r) (oX k d r) undef undef) (by kernel_rfl) ?_
            refine wpAnyH_take (i := 9) rfl (by kernel_rfl) (by kernel_rfl) (by kernel_rfl) (fun _ _ _ h => nomatch h.1) (yields_pure (v := oY k d r) (by kernel_rfl) (fun _ => by kernel_rfl)) ⟨_, hs⟩ ?_
            refine wpAnyH_as (b := actO k q P d r b1 b2 b3 b4 b5 b6 undef (pt B45) undef (oT k d r) (pt q) (oP k d) (nn k) (sl B1) (oQ k) (ni r) (oT k d r) (oX k d r) (oY k d r) undef) (by kernel_rfl) ?_
            refine wpAnyH_take (i := 10) rfl (by kernel_rfl) (by kernel_rfl) (by kernel_rfl) (fun _ _ _ h => nomatch h.1) (yields_pure (v := oZ k d r) (by kernel_rfl) (fun _ => by kernel_rfl)) ⟨_, hs⟩ ?_
            refine wpAnyH_as (b := actO k q P d r b1 b2 b3 b4 b5 b6 undef (pt B45) undef (oT k d r) (pt q) (oP k d) (nn k) (sl B1) (oQ k) (ni r) (oT k d r) (oX k d r) (oY k d r) (oZ k d r)) (by kernel_rfl) ?_
            refine wpAnyH_all (rs := [11]) (by kernel_rfl) (by simp) ?_
            intro i hi
            obtain rfl : i = 11 := by simpa using hi
            refine wpOp_value (by kernel_rfl) (by kernel_rfl) (w' := World.alloc W47 (.cells (rowA 300 fun _ => 0) 79)) (v := .pointer (some ⟨W47.heap.size, 0, none⟩)) (by rw [← zeroCov]; kernel_rfl) ?_
            have fD := hs.fresh 300 79
            have hneLD := Nat.ne_of_gt fL.blk.lt
            replace fL := fL.alloc (.cells (rowA 300 fun _ => 0) 79)
            have hneED := Nat.ne_of_gt fE.blk.lt
            replace fE := fE.alloc (.cells (rowA 300 fun _ => 0) 79)
            replace hs := hs.alloc (.cells (rowA 300 fun _ => 0) 79)
            generalize World.alloc W47 _ = W48 at *
            generalize W47.heap.size = B48 at *
            refine ⟨⟨_, hs⟩, ?_⟩
            refine wpAnyH_as (b := actO k q P d r b1 b2 b3 b4 b5 b6 (pt B48) (pt B45) undef (oT k d r) (pt q) (oP k d) (nn k) (sl B1) (oQ k) (ni r) (oT k d r) (oX k d r) (oY k d r) (oZ k d r)) (by kernel_rfl) ?_
            refine wpAnyH_all (rs := [13]) (by kernel_rfl) (by simp) ?_
            intro i hi
            obtain rfl : i = 13 := by simpa using hi
            refine wpOp_store (by kernel_rfl) (by kernel_rfl) 79 (.tmp 9) (.tmp 55) B48 300 (updF (oneP k d) (oneR k) r) (fun _ => 0) 79 (by kernel_rfl) (by kernel_rfl) (by kernel_rfl) fD.blk covSize ?_
            replace hs := hs.row fD.lo fD.gt (rowA 300 (updF (oneP k d) (oneR k) r))
            replace fL := fL.otherRow (C := B48) (by omega) (rowA 300 (updF (oneP k d) (oneR k) r))
            replace fE := fE.otherRow (C := B48) (by omega) (rowA 300 (updF (oneP k d) (oneR k) r))
            replace fD := fD.set (r := (updF (oneP k d) (oneR k) r))
            refine ⟨⟨_, hs⟩, ?_⟩
            refine wpAnyH_all (rs := [14]) (by kernel_rfl) (by simp) ?_
            intro i hi
            obtain rfl : i = 14 := by simpa using hi
            refine wpOp_store (by kernel_rfl) (by kernel_rfl) 100 (.tmp 10) (.tmp 56) B45 24 (updK (oneP k d) (oneR k) r) (fun _ => 0) 100 (by kernel_rfl) (by kernel_rfl) (by kernel_rfl) fE.blk brSize ?_
            replace hs := hs.row fE.lo fE.gt (rowA 24 (updK (oneP k d) (oneR k) r))
            replace fL := fL.otherRow (C := B45) (by omega) (rowA 24 (updK (oneP k d) (oneR k) r))
            replace fD := fD.otherRow (C := B45) (by omega) (rowA 24 (updK (oneP k d) (oneR k) r))
            replace fE := fE.set (r := (updK (oneP k d) (oneR k) r))
            refine ⟨⟨_, hs⟩, ?_⟩
            refine wpAnyH_take (i := 15) rfl (by kernel_rfl) (by kernel_rfl) (by kernel_rfl) (fun _ _ _ h => nomatch h.1) (yields_pure (v := oZ k d r) (by kernel_rfl) (fun _ => by kernel_rfl)) ⟨_, hs⟩ ?_
            refine wpAnyH_as (b := actO k q P d r b1 b2 b3 b4 b5 b6 (pt B48) (pt B45) (oZ k d r) (oT k d r) (pt q) (oP k d) (nn k) (sl B1) (oQ k) (ni r) (oT k d r) (oX k d r) (oY k d r) (oZ k d r)) (by kernel_rfl) ?_
            refine wpAnyH_done (by kernel_rfl) ?_ _
            exact ⟨rfl, by kernel_rfl, B48, B45, by kernel_rfl, by kernel_rfl, by kernel_rfl, hs, fD, fE, by omega⟩
          · refine wpOp_value (by kernel_rfl) (by kernel_rfl) (w' := World.alloc W46 (.cells (rowA 300 fun _ => 0) 79)) (v := .pointer (some ⟨W46.heap.size, 0, none⟩)) (by rw [← zeroCov]; kernel_rfl) ?_
            have fD := hs.fresh 300 79
            have hneLD := Nat.ne_of_gt fL.blk.lt
            replace fL := fL.alloc (.cells (rowA 300 fun _ => 0) 79)
            have hneED := Nat.ne_of_gt fE.blk.lt
            replace fE := fE.alloc (.cells (rowA 300 fun _ => 0) 79)
            replace hs := hs.alloc (.cells (rowA 300 fun _ => 0) 79)
            generalize World.alloc W46 _ = W51 at *
            generalize W46.heap.size = B51 at *
            refine ⟨⟨_, hs⟩, ?_⟩
            refine wpAnyH_as (b := actO k q P d r b1 b2 b3 b4 b5 b6 (pt B51) (pt B45) undef undef (pt q) (oP k d) (nn k) (sl B1) (oQ k) (ni r) undef undef undef undef) (by kernel_rfl) ?_
            refine wpAnyH_all (rs := [6]) (by kernel_rfl) (by simp) ?_
            intro i hi
            obtain rfl : i = 6 := by simpa using hi
            refine wpOp_call (by kernel_rfl) (by kernel_rfl) (by kernel_rfl) (upd_any q 0 (oneP k d) (oneR k) r _ _ (hs.F.fl fl)) ?_
            intro W52 k
            replace hs := hs.flag hpw k
            replace fL := fL.flag hpw k
            replace fE := fE.flag hpw k
            replace fD := fD.flag hpw k
            clear k
            refine ⟨⟨_, hs⟩, ?_⟩
            refine wpAnyH_as (b := actO k q P d r b1 b2 b3 b4 b5 b6 (pt B51) (pt B45) undef undef (pt q) (oP k d) (nn k) (sl B1) (oQ k) (ni r) (oT k d r) undef undef undef) (by kernel_rfl) ?_
            refine wpAnyH_take (i := 7) rfl (by kernel_rfl) (by kernel_rfl) (by kernel_rfl) (fun _ _ _ h => nomatch h.1) (yields_pure (v := oT k d r) (by kernel_rfl) (fun _ => by kernel_rfl)) ⟨_, hs⟩ ?_
            refine wpAnyH_as (b := actO k q P d r b1 b2 b3 b4 b5 b6 (pt B51) (pt B45) undef (oT k d r) (pt q) (oP k d) (nn k) (sl B1) (oQ k) (ni r) (oT k d r) undef undef undef) (by kernel_rfl) ?_
            refine wpAnyH_take (i := 8) rfl (by kernel_rfl) (by kernel_rfl) (by kernel_rfl) (fun _ _ _ h => nomatch h.1) (yields_pure (v := oX k d r) (by kernel_rfl) (fun _ => by kernel_rfl)) ⟨_, hs⟩ ?_
            refine wpAnyH_as (b := actO k q P d r b1 b2 b3 b4 b5 b6 (pt B51) (pt B45) undef (oT k d r) (pt q) (oP k d) (nn k) (sl B1) (oQ k) (ni r) (oT k d r) (oX k d r) undef undef) (by kernel_rfl) ?_
            refine wpAnyH_take (i := 9) rfl (by kernel_rfl) (by kernel_rfl) (by kernel_rfl) (fun _ _ _ h => nomatch h.1) (yields_pure (v := oY k d r) (by kernel_rfl) (fun _ => by kernel_rfl)) ⟨_, hs⟩ ?_
            refine wpAnyH_as (b := actO k q P d r b1 b2 b3 b4 b5 b6 (pt B51) (pt B45) undef (oT k d r) (pt q) (oP k d) (nn k) (sl B1) (oQ k) (ni r) (oT k d r) (oX k d r) (oY k d r) undef) (by kernel_rfl) ?_
            refine wpAnyH_take (i := 10) rfl (by kernel_rfl) (by kernel_rfl) (by kernel_rfl) (fun _ _ _ h => nomatch h.1) (yields_pure (v := oZ k d r) (by kernel_rfl) (fun _ => by kernel_rfl)) ⟨_, hs⟩ ?_
            refine wpAnyH_as (b := actO k q P d r b1 b2 b3 b4 b5 b6 (pt B51) (pt B45) undef (oT k d r) (pt q) (oP k d) (nn k) (sl B1) (oQ k) (ni r) (oT k d r) (oX k d r) (oY k d r) (oZ k d r)) (by kernel_rfl) ?_
            refine wpAnyH_all (rs := [13]) (by kernel_rfl) (by simp) ?_
            intro i hi
            obtain rfl : i = 13 := by simpa using hi
            refine wpOp_store (by kernel_rfl) (by kernel_rfl) 79 (.tmp 9) (.tmp 55) B51 300 (updF (oneP k d) (oneR k) r) (fun _ => 0) 79 (by kernel_rfl) (by kernel_rfl) (by kernel_rfl) fD.blk covSize ?_
            replace hs := hs.row fD.lo fD.gt (rowA 300 (updF (oneP k d) (oneR k) r))
            replace fL := fL.otherRow (C := B51) (by omega) (rowA 300 (updF (oneP k d) (oneR k) r))
            replace fE := fE.otherRow (C := B51) (by omega) (rowA 300 (updF (oneP k d) (oneR k) r))
            replace fD := fD.set (r := (updF (oneP k d) (oneR k) r))
            refine ⟨⟨_, hs⟩, ?_⟩
            refine wpAnyH_all (rs := [14]) (by kernel_rfl) (by simp) ?_
            intro i hi
            obtain rfl : i = 14 := by simpa using hi
            refine wpOp_store (by kernel_rfl) (by kernel_rfl) 100 (.tmp 10) (.tmp 56) B45 24 (updK (oneP k d) (oneR k) r) (fun _ => 0) 100 (by kernel_rfl) (by kernel_rfl) (by kernel_rfl) fE.blk brSize ?_
            replace hs := hs.row fE.lo fE.gt (rowA 24 (updK (oneP k d) (oneR k) r))
            replace fL := fL.otherRow (C := B45) (by omega) (rowA 24 (updK (oneP k d) (oneR k) r))
            replace fD := fD.otherRow (C := B45) (by omega) (rowA 24 (updK (oneP k d) (oneR k) r))
            replace fE := fE.set (r := (updK (oneP k d) (oneR k) r))
            refine ⟨⟨_, hs⟩, ?_⟩
            refine wpAnyH_take (i := 15) rfl (by kernel_rfl) (by kernel_rfl) (by kernel_rfl) (fun _ _ _ h => nomatch h.1) (yields_pure (v := oZ k d r) (by kernel_rfl) (fun _ => by kernel_rfl)) ⟨_, hs⟩ ?_
            refine wpAnyH_as (b := actO k q P d r b1 b2 b3 b4 b5 b6 (pt B51) (pt B45) (oZ k d r) (oT k d r) (pt q) (oP k d) (nn k) (sl B1) (oQ k) (ni r) (oT k d r) (oX k d r) (oY k d r) (oZ k d r)) (by kernel_rfl) ?_
            refine wpAnyH_done (by kernel_rfl) ?_ _
            exact ⟨rfl, by kernel_rfl, B51, B45, by kernel_rfl, by kernel_rfl, by kernel_rfl, hs, fD, fE, by omega⟩
        · refine wpOp_value (by kernel_rfl) (by kernel_rfl) (w' := World.alloc W45 (.cells (rowA 300 fun _ => 0) 79)) (v := .pointer (some ⟨W45.heap.size, 0, none⟩)) (by rw [← zeroCov]; kernel_rfl) ?_
          have fD := hs.fresh 300 79
          have hneLD := Nat.ne_of_gt fL.blk.lt
          replace fL := fL.alloc (.cells (rowA 300 fun _ => 0) 79)
          have hneED := Nat.ne_of_gt fE.blk.lt
          replace fE := fE.alloc (.cells (rowA 300 fun _ => 0) 79)
          replace hs := hs.alloc (.cells (rowA 300 fun _ => 0) 79)
          generalize World.alloc W45 _ = W55 at *
          generalize W45.heap.size = B55 at *
          refine ⟨⟨_, hs⟩, ?_⟩
          refine wpAnyH_as (b := actO k q P d r b1 b2 b3 b4 b5 b6 (pt B55) (pt B45) undef undef (pt q) (oP k d) (nn k) (sl B1) undef (ni r) undef undef undef undef) (by kernel_rfl) ?_
          refine wpAnyH_all (rs := [4]) (by kernel_rfl) (by simp) ?_
          intro i hi
          obtain rfl : i = 4 := by simpa using hi
          refine wpOp_call (by kernel_rfl) (by kernel_rfl) (by kernel_rfl) (pick_one _ k hk _ fL.blk) ?_
          intro W56 k
          replace hs := hs.call k
          replace fL := fL.call k
          replace fE := fE.call k
          replace fD := fD.call k
          clear k
          refine ⟨⟨_, hs⟩, ?_⟩
          refine wpAnyH_as (b := actO k q P d r b1 b2 b3 b4 b5 b6 (pt B55) (pt B45) undef undef (pt q) (oP k d) (nn k) (sl B1) (oQ k) (ni r) undef undef undef undef) (by kernel_rfl) ?_
          refine wpAnyH_all (rs := [6]) (by kernel_rfl) (by simp) ?_
          intro i hi
          obtain rfl : i = 6 := by simpa using hi
          refine wpOp_call (by kernel_rfl) (by kernel_rfl) (by kernel_rfl) (upd_any q 0 (oneP k d) (oneR k) r _ _ (hs.F.fl fl)) ?_
          intro W57 k
          replace hs := hs.flag hpw k
          replace fL := fL.flag hpw k
          replace fE := fE.flag hpw k
          replace fD := fD.flag hpw k
          clear k
          refine ⟨⟨_, hs⟩, ?_⟩
          refine wpAnyH_as (b := actO k q P d r b1 b2 b3 b4 b5 b6 (pt B55) (pt B45) undef undef (pt q) (oP k d) (nn k) (sl B1) (oQ k) (ni r) (oT k d r) undef undef undef) (by kernel_rfl) ?_
          refine wpAnyH_take (i := 7) rfl (by kernel_rfl) (by kernel_rfl) (by kernel_rfl) (fun _ _ _ h => nomatch h.1) (yields_pure (v := oT k d r) (by kernel_rfl) (fun _ => by kernel_rfl)) ⟨_, hs⟩ ?_
          refine wpAnyH_as (b := actO k q P d r b1 b2 b3 b4 b5 b6 (pt B55) (pt B45) undef (oT k d r) (pt q) (oP k d) (nn k) (sl B1) (oQ k) (ni r) (oT k d r) undef undef undef) (by kernel_rfl) ?_
          refine wpAnyH_take (i := 8) rfl (by kernel_rfl) (by kernel_rfl) (by kernel_rfl) (fun _ _ _ h => nomatch h.1) (yields_pure (v := oX k d r) (by kernel_rfl) (fun _ => by kernel_rfl)) ⟨_, hs⟩ ?_
          refine wpAnyH_as (b := actO k q P d r b1 b2 b3 b4 b5 b6 (pt B55) (pt B45) undef (oT k d r) (pt q) (oP k d) (nn k) (sl B1) (oQ k) (ni r) (oT k d r) (oX k d r) undef undef) (by kernel_rfl) ?_
          refine wpAnyH_take (i := 9) rfl (by kernel_rfl) (by kernel_rfl) (by kernel_rfl) (fun _ _ _ h => nomatch h.1) (yields_pure (v := oY k d r) (by kernel_rfl) (fun _ => by kernel_rfl)) ⟨_, hs⟩ ?_
          refine wpAnyH_as (b := actO k q P d r b1 b2 b3 b4 b5 b6 (pt B55) (pt B45) undef (oT k d r) (pt q) (oP k d) (nn k) (sl B1) (oQ k) (ni r) (oT k d r) (oX k d r) (oY k d r) undef) (by kernel_rfl) ?_
          refine wpAnyH_take (i := 10) rfl (by kernel_rfl) (by kernel_rfl) (by kernel_rfl) (fun _ _ _ h => nomatch h.1) (yields_pure (v := oZ k d r) (by kernel_rfl) (fun _ => by kernel_rfl)) ⟨_, hs⟩ ?_
          refine wpAnyH_as (b := actO k q P d r b1 b2 b3 b4 b5 b6 (pt B55) (pt B45) undef (oT k d r) (pt q) (oP k d) (nn k) (sl B1) (oQ k) (ni r) (oT k d r) (oX k d r) (oY k d r) (oZ k d r)) (by kernel_rfl) ?_
          refine wpAnyH_all (rs := [13]) (by kernel_rfl) (by simp) ?_
          intro i hi
          obtain rfl : i = 13 := by simpa using hi
          refine wpOp_store (by kernel_rfl) (by kernel_rfl) 79 (.tmp 9) (.tmp 55) B55 300 (updF (oneP k d) (oneR k) r) (fun _ => 0) 79 (by kernel_rfl) (by kernel_rfl) (by kernel_rfl) fD.blk covSize ?_
          replace hs := hs.row fD.lo fD.gt (rowA 300 (updF (oneP k d) (oneR k) r))
          replace fL := fL.otherRow (C := B55) (by omega) (rowA 300 (updF (oneP k d) (oneR k) r))
          replace fE := fE.otherRow (C := B55) (by omega) (rowA 300 (updF (oneP k d) (oneR k) r))
          replace fD := fD.set (r := (updF (oneP k d) (oneR k) r))
          refine ⟨⟨_, hs⟩, ?_⟩
          refine wpAnyH_all (rs := [14]) (by kernel_rfl) (by simp) ?_
          intro i hi
          obtain rfl : i = 14 := by simpa using hi
          refine wpOp_store (by kernel_rfl) (by kernel_rfl) 100 (.tmp 10) (.tmp 56) B45 24 (updK (oneP k d) (oneR k) r) (fun _ => 0) 100 (by kernel_rfl) (by kernel_rfl) (by kernel_rfl) fE.blk brSize ?_
          replace hs := hs.row fE.lo fE.gt (rowA 24 (updK (oneP k d) (oneR k) r))
          replace fL := fL.otherRow (C := B45) (by omega) (rowA 24 (updK (oneP k d) (oneR k) r))
          replace fD := fD.otherRow (C := B45) (by omega) (rowA 24 (updK (oneP k d) (oneR k) r))
          replace fE := fE.set (r := (updK (oneP k d) (oneR k) r))
          refine ⟨⟨_, hs⟩, ?_⟩
          refine wpAnyH_take (i := 15) rfl (by kernel_rfl) (by kernel_rfl) (by kernel_rfl) (fun _ _ _ h => nomatch h.1) (yields_pure (v := oZ k d r) (by kernel_rfl) (fun _ => by kernel_rfl)) ⟨_, hs⟩ ?_
          refine wpAnyH_as (b := actO k q P d r b1 b2 b3 b4 b5 b6 (pt B55) (pt B45) (oZ k d r) (oT k d r) (pt q) (oP k d) (nn k) (sl B1) (oQ k) (ni r) (oT k d r) (oX k d r) (oY k d r) (oZ k d r)) (by kernel_rfl) ?_
          refine wpAnyH_done (by kernel_rfl) ?_ _
          exact ⟨rfl, by kernel_rfl, B55, B45, by kernel_rfl, by kernel_rfl, by kernel_rfl, hs, fD, fE, by omega⟩
    · refine wpOp_value (by kernel_rfl) (by kernel_rfl) (w' := World.alloc Wst (.cells (rowA 300 fun _ => 0) 79)) (v := .pointer (some ⟨Wst.heap.size, 0, none⟩)) (by rw [← zeroCov]; kernel_rfl) ?_
      have fD := hs.fresh 300 79
      replace hs := hs.alloc (.cells (rowA 300 fun _ => 0) 79)
      generalize World.alloc Wst _ = W60 at *
      generalize Wst.heap.size = B60 at *
      refine ⟨⟨_, hs⟩, ?_⟩
      refine wpAnyH_as (b := actO k q P d r b1 b2 b3 b4 b5 b6 (pt B60) undef undef undef (pt q) (oP k d) (nn k) undef undef (ni r) undef undef undef undef) (by kernel_rfl) ?_
      refine wpAnyH_all (rs := [3, 12]) (by kernel_rfl) (by simp) ?_
      intro i hi
      simp only [List.mem_cons, List.not_mem_nil, or_false] at hi
      rcases hi with rfl | rfl
      · refine wpOp_value (by kernel_rfl) (by kernel_rfl) (w' := World.alloc W60 (.cells (rowA 1 fun _ => (k : Int)) 3)) (v := .slice (some ⟨W60.heap.size, 0, none⟩) 1 1) (by kernel_rfl) ?_
        have fL := hs.freshly 1 (fun _ => (k : Int)) 3
        have hneDL := Nat.ne_of_gt fD.blk.lt
        replace fD := fD.alloc (.cells (rowA 1 fun _ => (k : Int)) 3)
        replace hs := hs.alloc (.cells (rowA 1 fun _ => (k : Int)) 3)
        generalize World.alloc W60 _ = W61 at *
        generalize W60.heap.size = B61 at *
        refine ⟨⟨_, hs⟩, ?_⟩
        refine wpAnyH_as (b := actO k q P d r b1 b2 b3 b4 b5 b6 (pt B60) undef undef undef (pt q) (oP k d) (nn k) (sl B61) undef (ni r) undef undef undef undef) (by kernel_rfl) ?_
        refine wpAnyH_all (rs := [4, 12]) (by kernel_rfl) (by simp) ?_
        intro i hi
        simp only [List.mem_cons, List.not_mem_nil, or_false] at hi
        rcases hi with rfl | rfl
        · refine wpOp_call (by kernel_rfl) (by kernel_rfl) (by kernel_rfl) (pick_one _ k hk _ fL.blk) ?_
          intro W62 k
          replace hs := hs.call k
          replace fD := fD.call k
          replace fL := fL.call k
          clear k
          refine ⟨⟨_, hs⟩, ?_⟩
          refine wpAnyH_as (b := actO k q P d r b1 b2 b3 b4 b5 b6 (pt B60) undef undef undef (pt q) (oP k d) (nn k) (sl B61) (oQ k) (ni r) undef undef undef undef) (by kernel_rfl) ?_
          refine wpAnyH_all (rs := [6, 12]) (by kernel_rfl) (by simp) ?_
          intro i hi
          simp only [List.mem_cons, List.not_mem_nil, or_false] at hi
          rcases hi with rfl | rfl
          · refine wpOp_call (by kernel_rfl) (by kernel_rfl) (by kernel_rfl) (upd_any q 0 (oneP k d) (oneR k) r _ _ (hs.F.fl fl)) ?_
            intro W63 k
            replace hs := hs.flag hpw k
            replace fD := fD.flag hpw k
            replace fL := fL.flag hpw k
            clear k
            refine ⟨⟨_, hs⟩, ?_⟩
            refine wpAnyH_as (b := actO k q P d r b1 b2 b3 b4 b5 b6 (pt B60) undef undef undef (pt q) (oP k d) (nn k) (sl B61) (oQ k) (ni r) (oT k d r) undef undef undef) (by kernel_rfl) ?_
            refine wpAnyH_take (i := 7) rfl (by kernel_rfl) (by kernel_rfl) (by kernel_rfl) (fun _ _ _ h => nomatch h.1) (yields_pure (v := oT k d r) (by kernel_rfl) (fun _ => by kernel_rfl)) ⟨_, hs⟩ ?_
            refine wpAnyH_as (b := actO k q P d r b1 b2 b3 b4 b5 b6 (pt B60) undef undef (oT k d r) (pt q) (oP k d) (nn k) (sl B61) (oQ k) (ni r) (oT k d r) undef undef undef) (by kernel_rfl) ?_
            refine wpAnyH_take (i := 8) rfl (by kernel_rfl) (by kernel_rfl) (by kernel_rfl) (fun _ _ _ h => nomatch h.1) (yields_pure (v := oX k d r) (by kernel_rfl) (fun _ => by kernel_rfl)) ⟨_, hs⟩ ?_
            refine wpAnyH_as (b := actO k q P d r b1 b2 b3 b4 b5 b6 (pt B60) undef undef (oT k d r) (pt q) (oP k d) (nn k) (sl B61) (oQ k) (ni r) (oT k d r) (oX k d r) undef undef) (by kernel_rfl) ?_
            refine wpAnyH_take (i := 9) rfl (by kernel_rfl) (by kernel_rfl) (by kernel_rfl) (fun _ _ _ h => nomatch h.1) (yields_pure (v := oY k d r) (by kernel_rfl) (fun _ => by kernel_rfl)) ⟨_, hs⟩ ?_
            refine wpAnyH_as (b := actO k q P d r b1 b2 b3 b4 b5 b6 (pt B60) undef undef (oT k d r) (pt q) (oP k d) (nn k) (sl B61) (oQ k) (ni r) (oT k d r) (oX k d r) (oY k d r) undef) (by kernel_rfl) ?_
            refine wpAnyH_take (i := 10) rfl (by kernel_rfl) (by kernel_rfl) (by kernel_rfl) (fun _ _ _ h => nomatch h.1) (yields_pure (v := oZ k d r) (by kernel_rfl) (fun _ => by kernel_rfl)) ⟨_, hs⟩ ?_
            refine wpAnyH_as (b := actO k q P d r b1 b2 b3 b4 b5 b6 (pt B60) undef undef (oT k d r) (pt q) (oP k d) (nn k) (sl B61) (oQ k) (ni r) (oT k d r) (oX k d r) (oY k d r) (oZ k d r)) (by kernel_rfl) ?_
            refine wpAnyH_all (rs := [12]) (by kernel_rfl) (by simp) ?_
            intro i hi
            obtain rfl : i = 12 := by simpa using hi
            refine wpOp_value (by kernel_rfl) (by kernel_rfl) (w' := World.alloc W63 (.cells (rowA 24 fun _ => 0) 100)) (v := .pointer (some ⟨W63.heap.size, 0, none⟩)) (by rw [← zero24]; kernel_rfl) ?_
            have fE := hs.fresh 24 100
            have hneDE := Nat.ne_of_gt fD.blk.lt
            replace fD := fD.alloc (.cells (rowA 24 fun _ => 0) 100)
            have hneLE := Nat.ne_of_gt fL.blk.lt
            replace fL := fL.alloc (.cells (rowA 24 fun _ => 0) 100)
            replace hs := hs.alloc (.cells (rowA 24 fun _ => 0) 100)
            generalize World.alloc W63 _ = W64 at *
            generalize W63.heap.size = B64 at *
            refine ⟨⟨_, hs⟩, ?_⟩
            refine wpAnyH_as (b := actO k q P d r b1 b2 b3 b4 b5 b6 (pt B60) (pt B64) undef (oT k d r) (pt q) (oP k d) (nn k) (sl B61) (oQ k) (ni r) (oT k d r) (oX k d r) (oY k d r) (oZ k d r)) (by kernel_rfl) ?_
            refine wpAnyH_all (rs := [13]) (by kernel_rfl) (by simp) ?_
            intro i hi
            obtain rfl : i = 13 := by simpa using hi
            refine wpOp_store (by kernel_rfl) (by kernel_rfl) 79 (.tmp 9) (.tmp 55) B60 300 (updF (oneP k d) (oneR k) r) (fun _ => 0) 79 (by kernel_rfl) (by kernel_rfl) (by kernel_rfl) fD.blk covSize ?_
            replace hs := hs.row fD.lo fD.gt (rowA 300 (updF (oneP k d) (oneR k) r))
            replace fL := fL.otherRow (C := B60) (by omega) (rowA 300 (updF (oneP k d) (oneR k) r))
            replace fE := fE.otherRow (C := B60) (by omega) (rowA 300 (updF (oneP k d) (oneR k) r))
            replace fD := fD.set (r := (updF (oneP k d) (oneR k) r))
            refine ⟨⟨_, hs⟩, ?_⟩
            refine wpAnyH_all (rs := [14]) (by kernel_rfl) (by simp) ?_
            intro i hi
            obtain rfl : i = 14 := by simpa using hi
            refine wpOp_store (by kernel_rfl) (by kernel_rfl) 100 (.tmp 10) (.tmp 56) B64 24 (updK (oneP k d) (oneR k) r) (fun _ => 0) 100 (by kernel_rfl) (by kernel_rfl) (by kernel_rfl) fE.blk brSize ?_
            replace hs := hs.row fE.lo fE.gt (rowA 24 (updK (oneP k d) (oneR k) r))
            replace fD := fD.otherRow (C := B64) (by omega) (rowA 24 (updK (oneP k d) (oneR k) r))
            replace fL := fL.otherRow (C := B64) (by omega) (rowA 24 (updK (oneP k d) (oneR k) r))
            replace fE := fE.set (r := (updK (oneP k d) (oneR k) r))
            refine ⟨⟨_, hs⟩, ?_⟩
            refine wpAnyH_take (i := 15) rfl (by kernel_rfl) (by kernel_rfl) (by kernel_rfl) (fun _ _ _ h => nomatch h.1) (yields_pure (v := oZ k d r) (by kernel_rfl) (fun _ => by kernel_rfl)) ⟨_, hs⟩ ?_
            refine wpAnyH_as (b := actO k q P d r b1 b2 b3 b4 b5 b6 (pt B60) (pt B64) (oZ k d r) (oT k d r) (pt q) (oP k d) (nn k) (sl B61) (oQ k) (ni r) (oT k d r) (oX k d r) (oY k d r) (oZ k d r)) (by kernel_rfl) ?_
            refine wpAnyH_done (by kernel_rfl) ?_ _
            exact ⟨rfl, by kernel_rfl, B60, B64, by kernel_rfl, by kernel_rfl, by kernel_rfl, hs, fD, fE, by omega⟩
          · refine wpOp_value (by kernel_rfl) (by kernel_rfl) (w' := World.alloc W62 (.cells (rowA 24 fun _ => 0) 100)) (v := .pointer (some ⟨W62.heap.size, 0, none⟩)) (by rw [← zero24]; kernel_rfl) ?_
            have fE := hs.fresh 24 100
            have hneDE := Nat.ne_of_gt fD.blk.lt
            replace fD := fD.alloc (.cells (rowA 24 fun _ => 0) 100)
            have hneLE := Nat.ne_of_gt fL.blk.lt
            replace fL := fL.alloc (.cells (rowA 24 fun _ => 0) 100)
            replace hs := hs.alloc (.cells (rowA 24 fun _ => 0) 100)
            generalize World.alloc W62 _ = W67 at *
            generalize W62.heap.size = B67 at *
            refine ⟨⟨_, hs⟩, ?_⟩
            refine wpAnyH_as (b := actO k q P d r b1 b2 b3 b4 b5 b6 (pt B60) (pt B67) undef undef (pt q) (oP k d) (nn k) (sl B61) (oQ k) (ni r) undef undef undef undef) (by kernel_rfl) ?_
            refine wpAnyH_all (rs := [6]) (by kernel_rfl) (by simp) ?_
            intro i hi
            obtain rfl : i = 6 := by simpa using hi
            refine wpOp_call (by kernel_rfl) (by kernel_rfl) (by kernel_rfl) (upd_any q 0 (oneP k d) (oneR k) r _ _ (hs.F.fl fl)) ?_
            intro W68 k
            replace hs := hs.flag hpw k
            replace fD := fD.flag hpw k
            replace fL := fL.flag hpw k
            replace fE := fE.flag hpw k
            clear k
            refine ⟨⟨_, hs⟩, ?_⟩
            refine wpAnyH_as (b := actO k q P d r b1 b2 b3 b4 b5 b6 (pt B60) (pt B67) undef undef (pt q) (oP k d) (nn k) (sl B61) (oQ k) (ni r) (oT k d r) undef undef undef) (by kernel_rfl) ?_
            refine wpAnyH_take (i := 7) rfl (by kernel_rfl) (by kernel_rfl) (by kernel_rfl) (fun _ _ _ h => nomatch h.1) (yields_pure (v := oT k d r) (by kernel_rfl) (fun _ => by kernel_rfl)) ⟨_, hs⟩ ?_
            refine wpAnyH_as (b := actO k q P d r b1 b2 b3 b4 b5 b6 (pt B60) (pt B67) undef (oT k d r) (pt q) (oP k d) (nn k) (sl B61) (oQ k) (ni r) (oT k d r) undef undef undef) (by kernel_rfl) ?_
            refine wpAnyH_take (i := 8) rfl (by kernel_rfl) (by kernel_rfl) (by kernel_rfl) (fun _ _ _ h => nomatch h.1) (yields_pure (v := oX k d r) (by kernel_rfl) (fun _ => by kernel_rfl)) ⟨_, hs⟩ ?_
            refine wpAnyH_as (b := actO k q P d r b1 b2 b3 b4 b5 b6 (pt B60) (pt B67) undef (oT k d r) (pt q) (oP k d) (nn k) (sl B61) (oQ k) (ni r) (oT k d r) (oX k d r) undef undef) (by kernel_rfl) ?_
            refine wpAnyH_take (i := 9) rfl (by kernel_rfl) (by kernel_rfl) (by kernel_rfl) (fun _ _ _ h => nomatch h.1) (yields_pure (v := oY k d r) (by kernel_rfl) (fun _ => by kernel_rfl)) ⟨_, hs⟩ ?_
            refine wpAnyH_as (b := actO k q P d r b1 b2 b3 b4 b5 b6 (pt B60) (pt B67) undef (oT k d r) (pt q) (oP k d) (nn k) (sl B61) (oQ k) (ni r) (oT k d r) (oX k d r) (oY k d r) undef) (by kernel_rfl) ?_
            refine wpAnyH_take (i := 10) rfl (by kernel_rfl) (by kernel_rfl) (by kernel_rfl) (fun _ _ _ h => nomatch h.1) (yields_pure (v := oZ k d r) (by kernel_rfl) (fun _ => by kernel_rfl)) ⟨_, hs⟩ ?_
            refine wpAnyH_as (b := actO k q P d r b1 b2 b3 b4 b5 b6 (pt B60) (pt B67) undef (oT k d r) (pt q) (oP k d) (nn k) (sl B61) (oQ k) (ni r) (oT k d r) (oX k d r) (oY k d r) (oZ k d r)) (by kernel_rfl) ?_
            refine wpAnyH_all (rs := [13]) (by kernel_rfl) (by simp) ?_
            intro i hi
            obtain rfl : i = 13 := by simpa using hi
            refine wpOp_store (by kernel_rfl) (by kernel_rfl) 79 (.tmp 9) (.tmp 55) B60 300 (updF (oneP k d) (oneR k) r) (fun _ => 0) 79 (by kernel_rfl) (by kernel_rfl) (by kernel_rfl) fD.blk covSize ?_
            replace hs := hs.row fD.lo fD.gt (rowA 300 (updF (oneP k d) (oneR k) r))
            replace fL := fL.otherRow (C := B60) (by omega) (rowA 300 (updF (oneP k d) (oneR k) r))
            replace fE := fE.otherRow (C := B60) (by omega) (rowA 300 (updF (oneP k d) (oneR k) r))
            replace fD := fD.set (r := (updF (oneP k d) (oneR k) r))
            refine ⟨⟨_, hs⟩, ?_⟩
            refine wpAnyH_all (rs := [14]) (by kernel_rfl) (by simp) ?_
            intro i hi
            obtain rfl : i = 14 := by simpa using hi
            refine wpOp_store (by kernel_rfl) (by kernel_rfl) 100 (.tmp 10) (.tmp 56) B67 24 (updK (oneP k d) (oneR k) r) (fun _ => 0) 100 (by kernel_rfl) (by kernel_rfl) (by kernel_rfl) fE.blk brSize ?_
            replace hs := hs.row fE.lo fE.gt (rowA 24 (updK (oneP k d) (oneR k) r))
            replace fD := fD.otherRow (C := B67) (by omega) (rowA 24 (updK (oneP k d) (oneR k) r))
            replace fL := fL.otherRow (C := B67) (by omega) (rowA 24 (updK (oneP k d) (oneR k) r))
            replace fE := fE.set (r := (updK (oneP k d) (oneR k) r))
            refine ⟨⟨_, hs⟩, ?_⟩
            refine wpAnyH_take (i := 15) rfl (by kernel_rfl) (by kernel_rfl) (by kernel_rfl) (fun _ _ _ h => nomatch h.1) (yields_pure (v := oZ k d r) (by kernel_rfl) (fun _ => by kernel_rfl)) ⟨_, hs⟩ ?_
            refine wpAnyH_as (b := actO k q P d r b1 b2 b3 b4 b5 b6 (pt B60) (pt B67) (oZ k d r) (oT k d r) (pt q) (oP k d) (nn k) (sl B61) (oQ k) (ni r) (oT k d r) (oX k d r) (oY k d r) (oZ k d r)) (by kernel_rfl) ?_
            refine wpAnyH_done (by kernel_rfl) ?_ _
            exact ⟨rfl, by kernel_rfl, B60, B67, by kernel_rfl, by kernel_rfl, by kernel_rfl, hs, fD, fE, by omega⟩
        · refine wpOp_value (by kernel_rfl) (by kernel_rfl) (w' := World.alloc W61 (.cells (rowA 24 fun _ => 0) 100)) (v := .pointer (some ⟨W61.heap.size, 0, none⟩)) (by rw [← zero24]; kernel_rfl) ?_
          have fE := hs.fresh 24 100
          have hneDE := Nat.ne_of_gt fD.blk.lt
          replace fD := fD.alloc (.cells (rowA 24 fun _ => 0) 100)
          have hneLE := Nat.ne_of_gt fL.blk.lt
          replace fL := fL.alloc (.cells (rowA 24 fun _ => 0) 100)
          replace hs := hs.alloc (.cells (rowA 24 fun _ => 0) 100)
          generalize World.alloc W61 _ = W71 at *
          generalize W61.heap.size = B71 at *
          refine ⟨⟨_, hs⟩, ?_⟩
          refine wpAnyH_as (b := actO k q P d r b1 b2 b3 b4 b5 b6 (pt B60) (pt B71) undef undef (pt q) (oP k d) (nn k) (sl B61) undef (ni r) undef undef undef undef) (by kernel_rfl) ?_
          refine wpAnyH_all (rs := [4]) (by kernel_rfl) (by simp) ?_
          intro i hi
          obtain rfl : i = 4 := by simpa using hi
          refine wpOp_call (by kernel_rfl) (by kernel_rfl) (by kernel_rfl) (pick_one _ k hk _ fL.blk) ?_
          intro W72 k
          replace hs := hs.call k
          replace fD := fD.call k
          replace fL := fL.call k
          replace fE := fE.call k
          clear k
          refine ⟨⟨_, hs⟩, ?_⟩
          refine wpAnyH_as (b := actO k q P d r b1 b2 b3 b4 b5 b6 (pt B60) (pt B71) undef undef (pt q) (oP k d) (nn k) (sl B61) (oQ k) (ni r) undef undef undef undef) (by kernel_rfl) ?_
          refine wpAnyH_all (rs := [6]) (by kernel_rfl) (by simp) ?_
          intro i hi
          obtain rfl : i = 6 := by simpa using hi
          refine wpOp_call (by kernel_rfl) (by kernel_rfl) (by kernel_rfl) (upd_any q 0 (oneP k d) (oneR k) r _ _ (hs.F.fl fl)) ?_
          intro W73 k
          replace hs := hs.flag hpw k
          replace fD := fD.flag hpw k
          replace fL := fL.flag hpw k
          replace fE := fE.flag hpw k
          clear k
          refine ⟨⟨_, hs⟩, ?_⟩
          refine wpAnyH_as (b := actO k q P d r b1 b2 b3 b4 b5 b6 (pt B60) (pt B71) undef undef (pt q) (oP k d) (nn k) (sl B61) (oQ k) (ni r) (oT k d r) undef undef undef) (by kernel_rfl) ?_
          refine wpAnyH_take (i := 7) rfl (by kernel_rfl) (by kernel_rfl) (by kernel_rfl) (fun _ _ _ h => nomatch h.1) (yields_pure (v := oT k d r) (by kernel_rfl) (fun _ => by kernel_rfl)) ⟨_, hs⟩ ?_
          refine wpAnyH_as (b := actO k q P d r b1 b2 b3 b4 b5 b6 (pt B60) (pt B71) undef (oT k d r) (pt q) (oP k d) (nn k) (sl B61) (oQ k) (ni r) (oT k d r) undef undef undef) (by kernel_rfl) ?_
          refine wpAnyH_take (i := 8) rfl (by kernel_rfl) (by kernel_rfl) (by kernel_rfl) (fun _ _ _ h => nomatch h.1) (yields_pure (v := oX k d r) (by kernel_rfl) (fun _ => by kernel_rfl)) ⟨_, hs⟩ ?_
          refine wpAnyH_as (b := actO k q P d r b1 b2 b3 b4 b5 b6 (pt B60) (pt B71) undef (oT k d r) (pt q) (oP k d) (nn k) (sl B61) (oQ k) (ni r) (oT k d r) (oX k d r) undef undef) (by kernel_rfl) ?_
          refine wpAnyH_take (i := 9) rfl (by kernel_rfl) (by kernel_rfl) (by kernel_rfl) (fun _ _ _ h => nomatch h.1) (yields_pure (v := oY k d r) (by kernel_rfl) (fun _ => by kernel_rfl)) ⟨_, hs⟩ ?_
          refine wpAnyH_as (b := actO k q P d r b1 b2 b3 b4 b5 b6 (pt B60) (pt B71) undef (oT k d r) (pt q) (oP k d) (nn k) (sl B61) (oQ k) (ni r) (oT k d r) (oX k d r) (oY k d r) undef) (by kernel_rfl) ?_
          refine wpAnyH_take (i := 10) rfl (by kernel_rfl) (by kernel_rfl) (by kernel_rfl) (fun _ _ _ h => nomatch h.1) (yields_pure (v := oZ k d r) (by kernel_rfl) (fun _ => by kernel_rfl)) ⟨_, hs⟩ ?_
          refine wpAnyH_as (b := actO k q P d r b1 b2 b3 b4 b5 b6 (pt B60) (pt B71) undef (oT k d r) (pt q) (oP k d) (nn k) (sl B61) (oQ k) (ni r) (oT k d r) (oX k d r) (oY k d r) (oZ k d r)) (by kernel_rfl) ?_
          refine wpAnyH_all (rs := [13]) (by kernel_rfl) (by simp) ?_
          intro i hi
          obtain rfl : i = 13 := by simpa using hi
          refine wpOp_store (by kernel_rfl) (by kernel_rfl) 79 (.tmp 9) (.tmp 55) B60 300 (updF (oneP k d) (oneR k) r) (fun _ => 0) 79 (by kernel_rfl) (by kernel_rfl) (by kernel_rfl) fD.blk covSize ?_
          replace hs := hs.row fD.lo fD.gt (rowA 300 (updF (oneP k d) (oneR k) r))
          replace fL := fL.otherRow (C := B60) (by omega) (rowA 300 (updF (oneP k d) (oneR k) r))
          replace fE := fE.otherRow (C := B60) (by omega) (rowA 300 (updF (oneP k d) (oneR k) r))
          replace fD := fD.set (r := (updF (oneP k d) (oneR k) r))
          refine ⟨⟨_, hs⟩, ?_⟩
          refine wpAnyH_all (rs := [14]) (by kernel_rfl) (by simp) ?_
          intro i hi
          obtain rfl : i = 14 := by simpa using hi
          refine wpOp_store (by kernel_rfl) (by kernel_rfl) 100 (.tmp 10) (.tmp 56) B71 24 (updK (oneP k d) (oneR k) r) (fun _ => 0) 100 (by kernel_rfl) (by kernel_rfl) (by kernel_rfl) fE.blk brSize ?_
          replace hs := hs.row fE.lo fE.gt (rowA 24 (updK (oneP k d) (oneR k) r))
          replace fD := fD.otherRow (C := B71) (by omega) (rowA 24 (updK (oneP k d) (oneR k) r))
          replace fL := fL.otherRow (C := B71) (by omega) (rowA 24 (updK (oneP k d) (oneR k) r))
          replace fE := fE.set (r := (updK (oneP k d) (oneR k) r))
          refine ⟨⟨_, hs⟩, ?_⟩
          refine wpAnyH_take (i := 15) rfl (by kernel_rfl) (by kernel_rfl) (by kernel_rfl) (fun _ _ _ h => nomatch h.1) (yields_pure (v := oZ k d r) (by kernel_rfl) (fun _ => by kernel_rfl)) ⟨_, hs⟩ ?_
          refine wpAnyH_as (b := actO k q P d r b1 b2 b3 b4 b5 b6 (pt B60) (pt B71) (oZ k d r) (oT k d r) (pt q) (oP k d) (nn k) (sl B61) (oQ k) (ni r) (oT k d r) (oX k d r) (oY k d r) (oZ k d r)) (by kernel_rfl) ?_
          refine wpAnyH_done (by kernel_rfl) ?_ _
          exact ⟨rfl, by kernel_rfl, B60, B71, by kernel_rfl, by kernel_rfl, by kernel_rfl, hs, fD, fE, by omega⟩
      · refine wpOp_value (by kernel_rfl) (by kernel_rfl) (w' := World.alloc W60 (.cells (rowA 24 fun _ => 0) 100)) (v := .pointer (some ⟨W60.heap.size, 0, none⟩)) (by rw [← zero24]; kernel_rfl) ?_
        have fE := hs.fresh 24 100
        have hneDE := Nat.ne_of_gt fD.blk.lt
        replace fD := fD.alloc (.cells (rowA 24 fun _ => 0) 100)
        replace hs := hs.alloc (.cells (rowA 24 fun _ => 0) 100)
        generalize World.alloc W60 _ = W76 at *
        generalize W60.heap.size = B76 at *
        refine ⟨⟨_, hs⟩, ?_⟩
        refine wpAnyH_as (b := actO k q P d r b1 b2 b3 b4 b5 b6 (pt B60) (pt B76) undef undef (pt q) (oP k d) (nn k) undef undef (ni r) undef undef undef undef) (by kernel_rfl) ?_
        refine wpAnyH_all (rs := [3]) (by kernel_rfl) (by simp) ?_
        intro i hi
        obtain rfl : i = 3 := by simpa using hi
        refine wpOp_value (by kernel_rfl) (by kernel_rfl) (w' := World.alloc W76 (.cells (rowA 1 fun _ => (k : Int)) 3)) (v := .slice (some ⟨W76.heap.size, 0, none⟩) 1 1) (by kernel_rfl) ?_
        have fL := hs.freshly 1 (fun _ => (k : Int)) 3
        have hneDL := Nat.ne_of_gt fD.blk.lt
        replace fD := fD.alloc (.cells (rowA 1 fun _ => (k : Int)) 3)
        have hneEL := Nat.ne_of_gt fE.blk.lt
        replace fE := fE.alloc (.cells (rowA 1 fun _ => (k : Int)) 3)
        replace hs := hs.alloc (.cells (rowA 1 fun _ => (k : Int)) 3)
        generalize World.alloc W76 _ = W77 at *
        generalize W76.heap.size = B77 at *
        refine ⟨⟨_, hs⟩, ?_⟩
        refine wpAnyH_as (b := actO k q P d r b1 b2 b3 b4 b5 b6 (pt B60) (pt B76) undef undef (pt q) (oP k d) (nn k) (sl B77) undef (ni r) undef undef undef undef) (by kernel_rfl) ?_
        refine wpAnyH_all (rs := [4]) (by kernel_rfl) (by simp) ?_
        intro i hi
        obtain rfl : i = 4 := by simpa using hi
        refine wpOp_call (by kernel_rfl) (by kernel_rfl) (by kernel_rfl) (pick_one _ k hk _ fL.blk) ?_
        intro W78 k
        replace hs := hs.call k
        replace fD := fD.call k
        replace fE := fE.call k
        replace fL := fL.call k
        clear k
        refine ⟨⟨_, hs⟩, ?_⟩
        refine wpAnyH_as (b := actO k q P d r b1 b2 b3 b4 b5 b6 (pt B60) (pt B76) undef undef (pt q) (oP k d) (nn k) (sl B77) (oQ k) (ni r) undef undef undef undef) (by kernel_rfl) ?_
        refine wpAnyH_all (rs := [6]) (by kernel_rfl) (by simp) ?_
        intro i hi
        obtain rfl : i = 6 := by simpa using hi
        refine wpOp_call (by kernel_rfl) (by kernel_rfl) (by kernel_rfl) (upd_any q 0 (oneP k d) (oneR k) r _ _ (hs.F.fl fl)) ?_
        intro W79 k
        replace hs := hs.flag hpw k
        replace fD := fD.flag hpw k
        replace fE := fE.flag hpw k
        replace fL := fL.flag hpw k
        clear k
        refine ⟨⟨_, hs⟩, ?_⟩
        refine wpAnyH_as (b := actO k q P d r b1 b2 b3 b4 b5 b6 (pt B60) (pt B76) undef undef (pt q) (oP k d) (nn k) (sl B77) (oQ k) (ni r) (oT k d r) undef undef undef) (by kernel_rfl) ?_
        refine wpAnyH_take (i := 7) rfl (by kernel_rfl) (by kernel_rfl) (by kernel_rfl) (fun _ _ _ h => nomatch h.1) (yields_pure (v := oT k d r) (by kernel_rfl) (fun _ => by kernel_rfl)) ⟨_, hs⟩ ?_
        refine wpAnyH_as (b := actO k q P d r b1 b2 b3 b4 b5 b6 (pt B60) (pt B76) undef (oT k d r) (pt q) (oP k d) (nn k) (sl B77) (oQ k) (ni r) (oT k d r) undef undef undef) (by kernel_rfl) ?_
        refine wpAnyH_take (i := 8) rfl (by kernel_rfl) (by kernel_rfl) (by kernel_rfl) (fun _ _ _ h => nomatch h.1) (yields_pure (v := oX k d r) (by kernel_rfl) (fun _ => by kernel_rfl)) ⟨_, hs⟩ ?_
        refine wpAnyH_as (b := actO k q P d r b1 b2 b3 b4 b5 b6 (pt B60) (pt B76) undef (oT k d r) (pt q) (oP k d) (nn k) (sl B77) (oQ k) (ni r) (oT k d r) (oX k d r) undef undef) (by kernel_rfl) ?_
        refine wpAnyH_take (i := 9) rfl (by kernel_rfl) (by kernel_rfl) (by kernel_rfl) (fun _ _ _ h => nomatch h.1) (yields_pure (v := oY k d r) (by kernel_rfl) (fun _ => by kernel_rfl)) ⟨_, hs⟩ ?_
        refine wpAnyH_as (b := actO k q P d r b1 b2 b3 b4 b5 b6 (pt B60) (pt B76) undef (oT k d r) (pt q) (oP k d) (nn k) (sl B77) (oQ k) (ni r) (oT k d r) (oX k d r) (oY k d r) undef) (by kernel_rfl) ?_
        refine wpAnyH_take (i := 10) rfl (by kernel_rfl) (by kernel_rfl) (by kernel_rfl) (fun _ _ _ h => nomatch h.1) (yields_pure (v := oZ k d r) (by kernel_rfl) (fun _ => by kernel_rfl)) ⟨_, hs⟩ ?_
        refine wpAnyH_as (b := actO k q P d r b1 b2 b3 b4 b5 b6 (pt B60) (pt B76) undef (oT k d r) (pt q) (oP k d) (nn k) (sl B77) (oQ k) (ni r) (oT k d r) (oX k d r) (oY k d r) (oZ k d r)) (by kernel_rfl) ?_
        refine wpAnyH_all (rs := [13]) (by kernel_rfl) (by simp) ?_
        intro i hi
        obtain rfl : i = 13 := by simpa using hi
        refine wpOp_store (by kernel_rfl) (by kernel_rfl) 79 (.tmp 9) (.tmp 55) B60 300 (updF (oneP k d) (oneR k) r) (fun _ => 0) 79 (by kernel_rfl) (by kernel_rfl) (by kernel_rfl) fD.blk covSize ?_
        replace hs := hs.row fD.lo fD.gt (rowA 300 (updF (oneP k d) (oneR k) r))
        replace fE := fE.otherRow (C := B60) (by omega) (rowA 300 (updF (oneP k d) (oneR k) r))
        replace fL := fL.otherRow (C := B60) (by omega) (rowA 300 (updF (oneP k d) (oneR k) r))
        replace fD := fD.set (r := (updF (oneP k d) (oneR k) r))
        refine ⟨⟨_, hs⟩, ?_⟩
        refine wpAnyH_all (rs := [14]) (by kernel_rfl) (by simp) ?_
        intro i hi
        obtain rfl : i = 14 := by simpa using hi
        refine wpOp_store (by kernel_rfl) (by kernel_rfl) 100 (.tmp 10) (.tmp 56) B76 24 (updK (oneP k d) (oneR k) r) (fun _ => 0) 100 (by kernel_rfl) (by kernel_rfl) (by kernel_rfl) fE.blk brSize ?_
        replace hs := hs.row fE.lo fE.gt (rowA 24 (updK (oneP k d) (oneR k) r))
        replace fD := fD.otherRow (C := B76) (by omega) (rowA 24 (updK (oneP k d) (oneR k) r))
        replace fL := fL.otherRow (C := B76) (by omega) (rowA 24 (updK (oneP k d) (oneR k) r))
        replace fE := fE.set (r := (updK (oneP k d) (oneR k) r))
        refine ⟨⟨_, hs⟩, ?_⟩
        refine wpAnyH_take (i := 15) rfl (by kernel_rfl) (by kernel_rfl) (by kernel_rfl) (fun _ _ _ h => nomatch h.1) (yields_pure (v := oZ k d r) (by kernel_rfl) (fun _ => by kernel_rfl)) ⟨_, hs⟩ ?_
        refine wpAnyH_as (b := actO k q P d r b1 b2 b3 b4 b5 b6 (pt B60) (pt B76) (oZ k d r) (oT k d r) (pt q) (oP k d) (nn k) (sl B77) (oQ k) (ni r) (oT k d r) (oX k d r) (oY k d r) (oZ k d r)) (by kernel_rfl) ?_
        refine wpAnyH_done (by kernel_rfl) ?_ _
        exact ⟨rfl, by kernel_rfl, B60, B76, by kernel_rfl, by kernel_rfl, by kernel_rfl, hs, fD, fE, by omega⟩
    · refine wpOp_value (by kernel_rfl) (by kernel_rfl) (w' := World.alloc Wst (.cells (rowA 24 fun _ => 0) 100)) (v := .pointer (some ⟨Wst.heap.size, 0, none⟩)) (by rw [← zero24]; kernel_rfl) ?_
      have fE := hs.fresh 24 100
      replace hs := hs.alloc (.cells (rowA 24 fun _ => 0) 100)
      generalize World.alloc Wst _ = W82 at *
      generalize Wst.heap.size = B82 at *
      refine ⟨⟨_, hs⟩, ?_⟩
      refine wpAnyH_as (b := actO k q P d r b1 b2 b3 b4 b5 b6 undef (pt B82) undef undef (pt q) (oP k d) (nn k) undef undef (ni r) undef undef undef undef) (by kernel_rfl) ?_
      refine wpAnyH_all (rs := [3, 11]) (by kernel_rfl) (by simp) ?_
      intro i hi
      simp only [List.mem_cons, List.not_mem_nil, or_false] at hi
      rcases hi with rfl | rfl
      · refine wpOp_value (by kernel_rfl) (by kernel_rfl) (w' := World.alloc W82 (.cells (rowA 1 fun _ => (k : Int)) 3)) (v := .slice (some ⟨W82.heap.size, 0, none⟩) 1 1) (by kernel_rfl) ?_
        have fL := hs.freshly 1 (fun _ => (k : Int)) 3
        have hneEL := Nat.ne_of_gt fE.blk.lt
        replace fE := fE.alloc (.cells (rowA 1 fun _ => (k : Int)) 3)
        replace hs := hs.alloc (.cells (rowA 1 fun _ => (k : Int)) 3)
        generalize World.alloc W82 _ = W83 at *
        generalize W82.heap.size = B83 at *
        refine ⟨⟨_, hs⟩, ?_⟩
        refine wpAnyH_as (b := actO k q P d r b1 b2 b3 b4 b5 b6 undef (pt B82) undef undef (pt q) (oP k d) (nn k) (sl B83) undef (ni r) undef undef undef undef) (by kernel_rfl) ?_
        refine wpAnyH_all (rs := [4, 11]) (by kernel_rfl) (by simp) ?_
        intro i hi
        simp only [List.mem_cons, List.not_mem_nil, or_false] at hi
        rcases hi with rfl | rfl
        · refine wpOp_call (by kernel_rfl) (by kernel_rfl) (by kernel_rfl) (pick_one _ k hk _ fL.blk) ?_
          intro W84 k
          replace hs := hs.call k
          replace fE := fE.call k
          replace fL := fL.call k
          clear k
          refine ⟨⟨_, hs⟩, ?_⟩
          refine wpAnyH_as (b := actO k q P d r b1 b2 b3 b4 b5 b6 undef (pt B82) undef undef (pt q) (oP k d) (nn k) (sl B83) (oQ k) (ni r) undef undef undef undef) (by kernel_rfl) ?_
          refine wpAnyH_all (rs := [6, 11]) (by kernel_rfl) (by simp) ?_
          intro i hi
          simp only [List.mem_cons, List.not_mem_nil, or_false] at hi
          rcases hi with rfl | rfl
          · refine wpOp_call (by kernel_rfl) (by kernel_rfl) (by kernel_rfl) (upd_any q 0 (oneP k d) (oneR k) r _ _ (hs.F.fl fl)) ?_
            intro W85 k
            replace hs := hs.flag hpw k
            replace fE := fE.flag hpw k
            replace fL := fL.flag hpw k
            clear k
            refine ⟨⟨_, hs⟩, ?_⟩
            refine wpAnyH_as (b := actO k q P d r b1 b2 b3 b4 b5 b6 undef (pt B82) undef undef (pt q) (oP k d) (nn k) (sl B83) (oQ k) (ni r) (oT k d r) undef undef undef) (by kernel_rfl) ?_
            refine wpAnyH_take (i := 7) rfl (by kernel_rfl) (by kernel_rfl) (by kernel_rfl) (fun _ _ _ h => nomatch h.1) (yields_pure (v := oT k d r) (by kernel_rfl) (fun _ => by kernel_rfl)) ⟨_, hs⟩ ?_
            refine wpAnyH_as (b := actO k q P d r b1 b2 b3 b4 b5 b6 undef (pt B82) undef (oT k d r) (pt q) (oP k d) (nn k) (sl B83) (oQ k) (ni r) (oT k d r) undef undef undef) (by kernel_rfl) ?_
            refine wpAnyH_take (i := 8) rfl (by kernel_rfl) (by kernel_rfl) (by kernel_rfl) (fun _ _ _ h => nomatch h.1) (yields_pure (v := oX k d r) (by kernel_rfl) (fun _ => by kernel_rfl)) ⟨_, hs⟩ ?_
            refine wpAnyH_as (b := actO k q P d r b1 b2 b3 b4 b5 b6 undef (pt B82) undef (oT k d r) (pt q) (oP k d) (nn k) (sl B83) (oQ k) (ni r) (oT k d r) (oX k d r) undef undef) (by kernel_rfl) ?_
            refine wpAnyH_take (i := 9) rfl (by kernel_rfl) (by kernel_rfl) (by kernel_rfl) (fun _ _ _ h => nomatch h.1) (yields_pure (v := oY k d r) (by kernel_rfl) (fun _ => by kernel_rfl)) ⟨_, hs⟩ ?_
            refine wpAnyH_as (b := actO k q P d r b1 b2 b3 b4 b5 b6 undef (pt B82) undef (oT k d r) (pt q) (oP k d) (nn k) (sl B83) (oQ k) (ni r) (oT k d r) (oX k d r) (oY k d r) undef) (by kernel_rfl) ?_
            refine wpAnyH_take (i := 10) rfl (by kernel_rfl) (by kernel_rfl) (by kernel_rfl) (fun _ _ _ h => nomatch h.1) (yields_pure (v := oZ k d r) (by kernel_rfl) (fun _ => by kernel_rfl)) ⟨_, hs⟩ ?_
            refine wpAnyH_as (b := actO k q P d r b1 b2 b3 b4 b5 b6 undef (pt B82) undef (oT k d r) (pt q) (oP k d) (nn k) (sl B83) (oQ k) (ni r) (oT k d r) (oX k d r) (oY k d r) (oZ k d r)) (by kernel_rfl) ?_
            refine wpAnyH_all (rs := [11]) (by kernel_rfl) (by simp) ?_
            intro i hi
            obtain rfl : i = 11 := by simpa using hi
            refine wpOp_value (by kernel_rfl) (by kernel_rfl) (w' := World.alloc W85 (.cells (rowA 300 fun _ => 0) 79)) (v := .pointer (some ⟨W85.heap.size, 0, none⟩)) (by rw [← zeroCov]; kernel_rfl) ?_
            have fD := hs.fresh 300 79
            have hneED := Nat.ne_of_gt fE.blk.lt
            replace fE := fE.alloc (.cells (rowA 300 fun _ => 0) 79)
            have hneLD := Nat.ne_of_gt fL.blk.lt
            replace fL := fL.alloc (.cells (rowA 300 fun _ => 0) 79)
            replace hs := hs.alloc (.cells (rowA 300 fun _ => 0) 79)
            generalize World.alloc W85 _ = W86 at *
            generalize W85.heap.size = B86 at *
            refine ⟨⟨_, hs⟩, ?_⟩
            refine wpAnyH_as (b := actO k q P d r b1 b2 b3 b4 b5 b6 (pt B86) (pt B82) undef (oT k d r) (pt q) (oP k d) (nn k) (sl B83) (oQ k) (ni r) (oT k d r) (oX k d r) (oY k d r) (oZ k d r)) (by kernel_rfl) ?_
            refine wpAnyH_all (rs := [13]) (by kernel_rfl) (by simp) ?_
            intro i hi
            obtain rfl : i = 13 := by simpa using hi
            refine wpOp_store (by kernel_rfl) (by kernel_rfl) 79 (.tmp 9) (.tmp 55) B86 300 (updF (oneP k d) (oneR k) r) (fun _ => 0) 79 (by kernel_rfl) (by kernel_rfl) (by kernel_rfl) fD.blk covSize ?_
            replace hs := hs.row fD.lo fD.gt (rowA 300 (updF (oneP k d) (oneR k) r))
            replace fE := fE.otherRow (C := B86) (by omega) (rowA 300 (updF (oneP k d) (oneR k) r))
            replace fL := fL.otherRow (C := B86) (by omega) (rowA 300 (updF (oneP k d) (oneR k) r))
            replace fD := fD.set (r := (updF (oneP k d) (oneR k) r))
            refine ⟨⟨_, hs⟩, ?_⟩
            refine wpAnyH_all (rs := [14]) (by kernel_rfl) (by simp) ?_
            intro i hi
            obtain rfl : i = 14 := by simpa using hi
            refine wpOp_store (by kernel_rfl) (by kernel_rfl) 100 (.tmp 10) (.tmp 56) B82 24 (updK (oneP k d) (oneR k) r) (fun _ => 0) 100 (by kernel_rfl) (by kernel_rfl) (by kernel_rfl) fE.blk brSize ?_
            replace hs := hs.row fE.lo fE.gt (rowA 24 (updK (oneP k d) (oneR k) r))
            replace fL := fL.otherRow (C := B82) (by omega) (rowA 24 (updK (oneP k d) (oneR k) r))
            replace fD := fD.otherRow (C := B82) (by omega) (rowA 24 (updK (oneP k d) (oneR k) r))
            replace fE := fE.set (r := (updK (oneP k d) (oneR k) r))
            refine ⟨⟨_, hs⟩, ?_⟩
            refine wpAnyH_take (i := 15) rfl (by kernel_rfl) (by kernel_rfl) (by kernel_rfl) (fun _ _ _ h => nomatch h.1) (yields_pure (v := oZ k d r) (by kernel_rfl) (fun _ => by kernel_rfl)) ⟨_, hs⟩ ?_
            refine wpAnyH_as (b := actO k q P d r b1 b2 b3 b4 b5 b6 (pt B86) (pt B82) (oZ k d r) (oT k d r) (pt q) (oP k d) (nn k) (sl B83) (oQ k) (ni r) (oT k d r) (oX k d r) (oY k d r) (oZ k d r)) (by kernel_rfl) ?_
            refine wpAnyH_done (by kernel_rfl) ?_ _
            exact ⟨rfl, by kernel_rfl, B86, B82, by kernel_rfl, by kernel_rfl, by kernel_rfl, hs, fD, fE, by omega⟩
          · refine wpOp_value (by kernel_rfl) (by kernel_rfl) (w' := World.alloc W84 (.cells (rowA 300 fun _ => 0) 79)) (v := .pointer (some ⟨W84.heap.size, 0, none⟩)) (by rw [← zeroCov]; kernel_rfl) ?_
            have fD := hs.fresh 300 79
            have hneED := Nat.ne_of_gt fE.blk.lt
            replace fE := fE.alloc (.cells (rowA 300 fun _ => 0) 79)
            have hneLD := Nat.ne_of_gt fL.blk.lt
            replace fL := fL.alloc (.cells (rowA 300 fun _ => 0) 79)
            replace hs := hs.alloc (.cells (rowA 300 fun _ => 0) 79)
            generalize World.alloc W84 _ = W89 at *
            generalize W84.heap.size = B89 at *
            refine ⟨⟨_, hs⟩, ?_⟩
            refine wpAnyH_as (b := actO k q P d r b1 b2 b3 b4 b5 b6 (pt B89) (pt B82) undef undef (pt q) (oP k d) (nn k) (sl B83) (oQ k) (ni r) undef undef undef undef) (by kernel_rfl) ?_
            refine wpAnyH_all (rs := [6]) (by kernel_rfl) (by simp) ?_
            intro i hi
            obtain rfl : i = 6 := by simpa using hi
            refine wpOp_call (by kernel_rfl) (by kernel_rfl) (by kernel_rfl) (upd_any q 0 (oneP k d) (oneR k) r _ _ (hs.F.fl fl)) ?_
            intro W90 k
            replace hs := hs.flag hpw k
            replace fE := fE.flag hpw k
            replace fL := fL.flag hpw k
            replace fD := fD.flag hpw k
            clear k
            refine ⟨⟨_, hs⟩, ?_⟩
            refine wpAnyH_as (b := actO k q P d r b1 b2 b3 b4 b5 b6 (pt B89) (pt B82) undef undef (pt q) (oP k d) (nn k) (sl B83) (oQ k) (ni r) (oT k d r) undef undef undef) (by kernel_rfl) ?_
            refine wpAnyH_take (i := 7) rfl (by kernel_rfl) (by kernel_rfl) (by kernel_rfl) (fun _ _ _ h => nomatch h.1) (yields_pure (v := oT k d r) (by kernel_rfl) (fun _ => by kernel_rfl)) ⟨_, hs⟩ ?_
            refine wpAnyH_as (b := actO k q P d r b1 b2 b3 b4 b5 b6 (pt B89) (pt B82) undef (oT k d r) (pt q) (oP k d) (nn k) (sl B83) (oQ k) (ni r) (oT k d r) undef undef undef) (by kernel_rfl) ?_
            refine wpAnyH_take (i := 8) rfl (by kernel_rfl) (by kernel_rfl) (by kernel_rfl) (fun _ _ _ h => nomatch h.1) (yields_pure (v := oX k d r) (by kernel_rfl) (fun _ => by kernel_rfl)) ⟨_, hs⟩ ?_
            refine wpAnyH_as (b := actO k q P d r b1 b2 b3 b4 b5 b6 (pt B89) (pt B82) undef (oT k d r) (pt q) (oP k d) (nn k) (sl B83) (oQ k) (ni r) (oT k d r) (oX k d r) undef undef) (by kernel_rfl) ?_
            refine wpAnyH_take (i := 9) rfl (by kernel_rfl) (by kernel_rfl) (by kernel_rfl) (fun _ _ _ h => nomatch h.1) (yields_pure (v := oY k d r) (by kernel_rfl) (fun _ => by kernel_rfl)) ⟨_, hs⟩ ?_
            refine wpAnyH_as (b := actO k q P d r b1 b2 b3 b4 b5 b6 (pt B89) (pt B82) undef (oT k d r) (pt q) (oP k d) (nn k) (sl B83) (oQ k) (ni r) (oT k d r) (oX k d r) (oY k d r) undef) (by kernel_rfl) ?_
            refine wpAnyH_take (i := 10) rfl (by kernel_rfl) (by kernel_rfl) (by kernel_rfl) (fun _ _ _ h => nomatch h.1) (yields_pure (v := oZ k d r) (by kernel_rfl) (fun _ => by kernel_rfl)) ⟨_, hs⟩ ?_
            refine wpAnyH_as (b := actO k q P d r b1 b2 b3 b4 b5 b6 (pt B89) (pt B82) undef (oT k d r) (pt q) (oP k d) (nn k) (sl B83) (oQ k) (ni r) (oT k d r) (oX k d r) (oY k d r) (oZ k d r)) (by kernel_rfl) ?_
            refine wpAnyH_all (rs := [13]) (by kernel_rfl) (by simp) ?_
            intro i hi
            obtain rfl : i = 13 := by simpa using hi
            refine wpOp_store (by kernel_rfl) (by kernel_rfl) 79 (.tmp 9) (.tmp 55) B89 300 (updF (oneP k d) (oneR k) r) (fun _ => 0) 79 (by kernel_rfl) (by kernel_rfl) (by kernel_rfl) fD.blk covSize ?_
            replace hs := hs.row fD.lo fD.gt (rowA 300 (updF (oneP k d) (oneR k) r))
            replace fE := fE.otherRow (C := B89) (by omega) (rowA 300 (updF (oneP k d) (oneR k) r))
            replace fL := fL.otherRow (C := B89) (by omega) (rowA 300 (updF (oneP k d) (oneR k) r))
            replace fD := fD.set (r := (updF (oneP k d) (oneR k) r))
            refine ⟨⟨_, hs⟩, ?_⟩
            refine wpAnyH_all (rs := [14]) (by kernel_rfl) (by simp) ?_
            intro i hi
            obtain rfl : i = 14 := by simpa using hi
            refine wpOp_store (by kernel_rfl) (by kernel_rfl) 100 (.tmp 10) (.tmp 56) B82 24 (updK (oneP k d) (oneR k) r) (fun _ => 0) 100 (by kernel_rfl) (by kernel_rfl) (by kernel_rfl) fE.blk brSize ?_
            replace hs := hs.row fE.lo fE.gt (rowA 24 (updK (oneP k d) (oneR k) r))
            replace fL := fL.otherRow (C := B82) (by omega) (rowA 24 (updK (oneP k d) (oneR k) r))
            replace fD := fD.otherRow (C := B82) (by omega) (rowA 24 (updK (oneP k d) (oneR k) r))
            replace fE := fE.set (r := (updK (oneP k d) (oneR k) r))
            refine ⟨⟨_, hs⟩, ?_⟩
            refine wpAnyH_take (i := 15) rfl (by kernel_rfl) (by kernel_rfl) (by kernel_rfl) (fun _ _ _ h => nomatch h.1) (yields_pure (v := oZ k d r) (by kernel_rfl) (fun _ => by kernel_rfl)) ⟨_, hs⟩ ?_
            refine wpAnyH_as (b := actO k q P d r b1 b2 b3 b4 b5 b6 (pt B89) (pt B82) (oZ k d r) (oT k d r) (pt q) (oP k d) (nn k) (sl B83) (oQ k) (ni r) (oT k d r) (oX k d r) (oY k d r) (oZ k d r)) (by kernel_rfl) ?_
            refine wpAnyH_done (by kernel_rfl) ?_ _
            exact ⟨rfl, by kernel_rfl, B89, B82, by kernel_rfl, by kernel_rfl, by kernel_rfl, hs, fD, fE, by omega⟩
        · refine wpOp_value (by kernel_rfl) (by kernel_rfl) (w' := World.alloc W83 (.cells (rowA 300 fun _ => 0) 79)) (v := .pointer (some ⟨W83.heap.size, 0, none⟩)) (by rw [← zeroCov]; kernel_rfl) ?_
          have fD := hs.fresh 300 79
          have hneED := Nat.ne_of_gt fE.blk.lt
          replace fE := fE.alloc (.cells (rowA 300 fun _ => 0) 79)
          have hneLD := Nat.ne_of_gt fL.blk.lt
          replace fL := fL.alloc (.cells (rowA 300 fun _ => 0) 79)
          replace hs := hs.alloc (.cells (rowA 300 fun _ => 0) 79)
          generalize World.alloc W83 _ = W93 at *
          generalize W83.heap.size = B93 at *
          refine ⟨⟨_, hs⟩, ?_⟩
          refine wpAnyH_as (b := actO k q P d r b1 b2 b3 b4 b5 b6 (pt B93) (pt B82) undef undef (pt q) (oP k d) (nn k) (sl B83) undef (ni r) undef undef undef undef) (by kernel_rfl) ?_
          refine wpAnyH_all (rs := [4]) (by kernel_rfl) (by simp) ?_
          intro i hi
          obtain rfl : i = 4 := by simpa using hi
          refine wpOp_call (by kernel_rfl) (by kernel_rfl) (by kernel_rfl) (pick_one _ k hk _ fL.blk) ?_
          intro W94 k
          replace hs := hs.call k
          replace fE := fE.call k
          replace fL := fL.call k
          replace fD := fD.call k
          clear k
          refine ⟨⟨_, hs⟩, ?_⟩
          refine wpAnyH_as (b := actO k q P d r b1 b2 b3 b4 b5 b6 (pt B93) (pt B82) undef undef (pt q) (oP k d) (nn k) (sl B83) (oQ k) (ni r) undef undef undef undef) (by kernel_rfl) ?_
          refine wpAnyH_all (rs := [6]) (by kernel_rfl) (by simp) ?_
          intro i hi
          obtain rfl : i = 6 := by simpa using hi
          refine wpOp_call (by kernel_rfl) (by kernel_rfl) (by kernel_rfl) (upd_any q 0 (oneP k d) (oneR k) r _ _ (hs.F.fl fl)) ?_
          intro W95 k
          replace hs := hs.flag hpw k
          replace fE := fE.flag hpw k
          replace fL := fL.flag hpw k
          replace fD := fD.flag hpw k
          clear k
          refine ⟨⟨_, hs⟩, ?_⟩
          refine wpAnyH_as (b := actO k q P d r b1 b2 b3 b4 b5 b6 (pt B93) (pt B82) undef undef (pt q) (oP k d) (nn k) (sl B83) (oQ k) (ni r) (oT k d r) undef undef undef) (by kernel_rfl) ?_
          refine wpAnyH_take (i := 7) rfl (by kernel_rfl) (by kernel_rfl) (by kernel_rfl) (fun _ _ _ h => nomatch h.1) (yields_pure (v := oT k d r) (by kernel_rfl) (fun _ => by kernel_rfl)) ⟨_, hs⟩ ?_
          refine wpAnyH_as (b := actO k q P d r b1 b2 b3 b4 b5 b6 (pt B93) (pt B82) undef (oT k d r) (pt q) (oP k d) (nn k) (sl B83) (oQ k) (ni r) (oT k d r) undef undef undef) (by kernel_rfl) ?_
          refine wpAnyH_take (i := 8) rfl (by kernel_rfl) (by kernel_rfl) (by kernel_rfl) (fun _ _ _ h => nomatch h.1) (yields_pure (v := oX k d r) (by kernel_rfl) (fun _ => by kernel_rfl)) ⟨_, hs⟩ ?_
          refine wpAnyH_as (b := actO k q P d r b1 b2 b3 b4 b5 b6 (pt B93) (pt B82) undef (oT k d r) (pt q) (oP k d) (nn k) (sl B83) (oQ k) (ni r) (oT k d r) (oX k d r) undef undef) (by kernel_rfl) ?_
          refine wpAnyH_take (i := 9) rfl (by kernel_rfl) (by kernel_rfl) (by kernel_rfl) (fun _ _ _ h => nomatch h.1) (yields_pure (v := oY k d r) (by kernel_rfl) (fun _ => by kernel_rfl)) ⟨_, hs⟩ ?_
          refine wpAnyH_as (b := actO k q P d r b1 b2 b3 b4 b5 b6 (pt B93) (pt B82) undef (oT k d r) (pt q) (oP k d) (nn k) (sl B83) (oQ k) (ni r) (oT k d r) (oX k d r) (oY k d r) undef) (by kernel_rfl) ?_
          refine wpAnyH_take (i := 10) rfl (by kernel_rfl) (by kernel_rfl) (by kernel_rfl) (fun _ _ _ h => nomatch h.1) (yields_pure (v := oZ k d r) (by kernel_rfl) (fun _ => by kernel_rfl)) ⟨_, hs⟩ ?_
          refine wpAnyH_as (b := actO k q P d r b1 b2 b3 b4 b5 b6 (pt B93) (pt B82) undef (oT k d r) (pt q) (oP k d) (nn k) (sl B83) (oQ k) (ni r) (oT k d r) (oX k d r) (oY k d r) (oZ k d r)) (by kernel_rfl) ?_
          refine wpAnyH_all (rs := [13]) (by kernel_rfl) (by simp) ?_
          intro i hi
          obtain rfl : i = 13 := by simpa using hi
          refine wpOp_store (by kernel_rfl) (by kernel_rfl) 79 (.tmp 9) (.tmp 55) B93 300 (updF (oneP k d) (oneR k) r) (fun _ => 0) 79 (by kernel_rfl) (by kernel_rfl) (by kernel_rfl) fD.blk covSize ?_
          replace hs := hs.row fD.lo fD.gt (rowA 300 (updF (oneP k d) (oneR k) r))
          replace fE := fE.otherRow (C := B93) (by omega) (rowA 300 (updF (oneP k d) (oneR k) r))
          replace fL := fL.otherRow (C := B93) (by omega) (rowA 300 (updF (oneP k d) (oneR k) r))
          replace fD := fD.set (r := (updF (oneP k d) (oneR k) r))
          refine ⟨⟨_, hs⟩, ?_⟩
          refine wpAnyH_all (rs := [14]) (by kernel_rfl) (by simp) ?_
          intro i hi
          obtain rfl : i = 14 := by simpa using hi
          refine wpOp_store (by kernel_rfl) (by kernel_rfl) 100 (.tmp 10) (.tmp 56) B82 24 (updK (oneP k d) (oneR k) r) (fun _ => 0) 100 (by kernel_rfl) (by kernel_rfl) (by kernel_rfl) fE.blk brSize ?_
          replace hs := hs.row fE.lo fE.gt (rowA 24 (updK (oneP k d) (oneR k) r))
          replace fL := fL.otherRow (C := B82) (by omega) (rowA 24 (updK (oneP k d) (oneR k) r))
          replace fD := fD.otherRow (C := B82) (by omega) (rowA 24 (updK (oneP k d) (oneR k) r))
          replace fE := fE.set (r := (updK (oneP k d) (oneR k) r))
          refine ⟨⟨_, hs⟩, ?_⟩
          refine wpAnyH_take (i := 15) rfl (by kernel_rfl) (by kernel_rfl) (by kernel_rfl) (fun _ _ _ h => nomatch h.1) (yields_pure (v := oZ k d r) (by kernel_rfl) (fun _ => by kernel_rfl)) ⟨_, hs⟩ ?_
          refine wpAnyH_as (b := actO k q P d r b1 b2 b3 b4 b5 b6 (pt B93) (pt B82) (oZ k d r) (oT k d r) (pt q) (oP k d) (nn k) (sl B83) (oQ k) (ni r) (oT k d r) (oX k d r) (oY k d r) (oZ k d r)) (by kernel_rfl) ?_
          refine wpAnyH_done (by kernel_rfl) ?_ _
          exact ⟨rfl, by kernel_rfl, B93, B82, by kernel_rfl, by kernel_rfl, by kernel_rfl, hs, fD, fE, by omega⟩
      · refine wpOp_value (by kernel_rfl) (by kernel_rfl) (w' := World.alloc W82 (.cells (rowA 300 fun _ => 0) 79)) (v := .pointer (some ⟨W82.heap.size, 0, none⟩)) (by rw [← zeroCov]; kernel_rfl) ?_
        have fD := hs.fresh 300 79
        have hneED := Nat.ne_of_gt fE.blk.lt
        replace fE := fE.alloc (.cells (rowA 300 fun _ => 0) 79)
        replace hs := hs.alloc (.cells (rowA 300 fun _ => 0) 79)
        generalize World.alloc W82 _ = W98 at *
        generalize W82.heap.size = B98 at *
        refine ⟨⟨_, hs⟩, ?_⟩
        refine wpAnyH_as (b := actO k q P d r b1 b2 b3 b4 b5 b6 (pt B98) (pt B82) undef undef (pt q) (oP k d) (nn k) undef undef (ni r) undef undef undef undef) (by kernel_rfl) ?_
        refine wpAnyH_all (rs := [3]) (by kernel_rfl) (by simp) ?_
        intro i hi
        obtain rfl : i = 3 := by simpa using hi
        refine wpOp_value (by kernel_rfl) (by kernel_rfl) (w' := World.alloc W98 (.cells (rowA 1 fun _ => (k : Int)) 3)) (v := .slice (some ⟨W98.heap.size, 0, none⟩) 1 1) (by kernel_rfl) ?_
        have fL := hs.freshly 1 (fun _ => (k : Int)) 3
        have hneEL := Nat.ne_of_gt fE.blk.lt
        replace fE := fE.alloc (.cells (rowA 1 fun _ => (k : Int)) 3)
        have hneDL := Nat.ne_of_gt fD.blk.lt
        replace fD := fD.alloc (.cells (rowA 1 fun _ => (k : Int)) 3)
        replace hs := hs.alloc (.cells (rowA 1 fun _ => (k : Int)) 3)
        generalize World.alloc W98 _ = W99 at *
        generalize W98.heap.size = B99 at *
        refine ⟨⟨_, hs⟩, ?_⟩
        refine wpAnyH_as (b := actO k q P d r b1 b2 b3 b4 b5 b6 (pt B98) (pt B82) undef undef (pt q) (oP k d) (nn k) (sl B99) undef (ni r) undef undef undef undef) (by kernel_rfl) ?_
        refine wpAnyH_all (rs := [4]) (by kernel_rfl) (by simp) ?_
        intro i hi
        obtain rfl : i = 4 := by simpa using hi
        refine wpOp_call (by kernel_rfl) (by kernel_rfl) (by kernel_rfl) (pick_one _ k hk _ fL.blk) ?_
        intro W100 k
        replace hs := hs.call k
        replace fE := fE.call k
        replace fD := fD.call k
        replace fL := fL.call k
        clear k
        refine ⟨⟨_, hs⟩, ?_⟩
        refine wpAnyH_as (b := actO k q P d r b1 b2 b3 b4 b5 b6 (pt B98) (pt B82) undef undef (pt q) (oP k d) (nn k) (sl B99) (oQ k) (ni r) undef undef undef undef) (by kernel_rfl) ?_
        refine wpAnyH_all (rs := [6]) (by kernel_rfl) (by simp) ?_
        intro i hi
        obtain rfl : i = 6 := by simpa using hi
        refine wpOp_call (by kernel_rfl) (by kernel_rfl) (by kernel_rfl) (upd_any q 0 (oneP k d) (oneR k) r _ _ (hs.F.fl fl)) ?_
        intro W101 k
        replace hs := hs.flag hpw k
        replace fE := fE.flag hpw k
        replace fD := fD.flag hpw k
        replace fL := fL.flag hpw k
        clear k
        refine ⟨⟨_, hs⟩, ?_⟩
        refine wpAnyH_as (b := actO k q P d r b1 b2 b3 b4 b5 b6 (pt B98) (pt B82) undef undef (pt q) (oP k d) (nn k) (sl B99) (oQ k) (ni r) (oT k d r) undef undef undef) (by kernel_rfl) ?_
        refine wpAnyH_take (i := 7) rfl (by kernel_rfl) (by kernel_rfl) (by kernel_rfl) (fun _ _ _ h => nomatch h.1) (yields_pure (v := oT k d r) (by kernel_rfl) (fun _ => by kernel_rfl)) ⟨_, hs⟩ ?_
        refine wpAnyH_as (b := actO k q P d r b1 b2 b3 b4 b5 b6 (pt B98) (pt B82) undef (oT k d r) (pt q) (oP k d) (nn k) (sl B99) (oQ k) (ni r) (oT k d r) undef undef undef) (by kernel_rfl) ?_
        refine wpAnyH_take (i := 8) rfl (by kernel_rfl) (by kernel_rfl) (by kernel_rfl) (fun _ _ _ h => nomatch h.1) (yields_pure (v := oX k d r) (by kernel_rfl) (fun _ => by kernel_rfl)) ⟨_, hs⟩ ?_
        refine wpAnyH_as (b := actO k q P d r b1 b2 b3 b4 b5 b6 (pt B98) (pt B82) undef (oT k d r) (pt q) (oP k d) (nn k) (sl B99) (oQ k) (ni r) (oT k d r) (oX k d r) undef undef) (by kernel_rfl) ?_
        refine wpAnyH_take (i := 9) rfl (by kernel_rfl) (by kernel_rfl) (by kernel_rfl) (fun _ _ _ h => nomatch h.1) (yields_pure (v := oY k d r) (by kernel_rfl) (fun _ => by kernel_rfl)) ⟨_, hs⟩ ?_
        refine wpAnyH_as (b := actO k q P d r b1 b2 b3 b4 b5 b6 (pt B98) (pt B82) undef (oT k d r) (pt q) (oP k d) (nn k) (sl B99) (oQ k) (ni r) (oT k d r) (oX k d r) (oY k d r) undef) (by kernel_rfl) ?_
        refine wpAnyH_take (i := 10) rfl (by kernel_rfl) (by kernel_rfl) (by kernel_rfl) (fun _ _ _ h => nomatch h.1) (yields_pure (v := oZ k d r) (by kernel_rfl) (fun _ => by kernel_rfl)) ⟨_, hs⟩ ?_
        refine wpAnyH_as (b := actO k q P d r b1 b2 b3 b4 b5 b6 (pt B98) (pt B82) undef (oT k d r) (pt q) (oP k d) (nn k) (sl B99) (oQ k) (ni r) (oT k d r) (oX k d r) (oY k d r) (oZ k d r)) (by kernel_rfl) ?_
        refine wpAnyH_all (rs := [13]) (by kernel_rfl) (by simp) ?_
        intro i hi
        obtain rfl : i = 13 := by simpa using hi
        refine wpOp_store (by kernel_rfl) (by kernel_rfl) 79 (.tmp 9) (.tmp 55) B98 300 (updF (oneP k d) (oneR k) r) (fun _ => 0) 79 (by kernel_rfl) (by kernel_rfl) (by kernel_rfl) fD.blk covSize ?_
        replace hs := hs.row fD.lo fD.gt (rowA 300 (updF (oneP k d) (oneR k) r))
        replace fE := fE.otherRow (C := B98) (by omega) (rowA 300 (updF (oneP k d) (oneR k) r))
        replace fL := fL.otherRow (C := B98) (by omega) (rowA 300 (updF (oneP k d) (oneR k) r))
        replace fD := fD.set (r := (updF (oneP k d) (oneR k) r))
        refine ⟨⟨_, hs⟩, ?_⟩
        refine wpAnyH_all (rs := [14]) (by kernel_rfl) (by simp) ?_
        intro i hi
        obtain rfl : i = 14 := by simpa using hi
        refine wpOp_store (by kernel_rfl) (by kernel_rfl) 100 (.tmp 10) (.tmp 56) B82 24 (updK (oneP k d) (oneR k) r) (fun _ => 0) 100 (by kernel_rfl) (by kernel_rfl) (by kernel_rfl) fE.blk brSize ?_
        replace hs := hs.row fE.lo fE.gt (rowA 24 (updK (oneP k d) (oneR k) r))
        replace fD := fD.otherRow (C := B82) (by omega) (rowA 24 (updK (oneP k d) (oneR k) r))
        replace fL := fL.otherRow (C := B82) (by omega) (rowA 24 (updK (oneP k d) (oneR k) r))
        replace fE := fE.set (r := (updK (oneP k d) (oneR k) r))
        refine ⟨⟨_, hs⟩, ?_⟩
        refine wpAnyH_take (i := 15) rfl (by kernel_rfl) (by kernel_rfl) (by kernel_rfl) (fun _ _ _ h => nomatch h.1) (yields_pure (v := oZ k d r) (by kernel_rfl) (fun _ => by kernel_rfl)) ⟨_, hs⟩ ?_
        refine wpAnyH_as (b := actO k q P d r b1 b2 b3 b4 b5 b6 (pt B98) (pt B82) (oZ k d r) (oT k d r) (pt q) (oP k d) (nn k) (sl B99) (oQ k) (ni r) (oT k d r) (oX k d r) (oY k d r) (oZ k d r)) (by kernel_rfl) ?_
        refine wpAnyH_done (by kernel_rfl) ?_ _
        exact ⟨rfl, by kernel_rfl, B98, B82, by kernel_rfl, by kernel_rfl, by kernel_rfl, hs, fD, fE, by omega⟩
  · rintro w' u ⟨D, E, hu9, hu10, hu11, hs, fD, fE, hDE⟩
    rw [hu9, hu10, hu11]
    obtain ⟨hk', hd, hr⟩ := HD.out
    have hA := one_all hk' hd hr
    have hw : r + d = IntKind.i64.wrap (d + r) := by rw [i64_id _ (by omega) (by omega)]; omega
    have hm := mdh_no (d := d) (a := r) (b := r + d) (by omega) (by omega) (by omega) (by omega)
    have hq2 := quoh_no (a := d) (b := r + d) (by omega) (by omega) (by omega)
    rw [hw] at hA hm hq2
    rw [hA.2.1]
    have L : Fr W0 q 0 false [(E, 24, (fun i => if i = k then quov d (IntKind.i64.wrap (d + r)) else 0), 100), (D, 300, (fun q => if q = 276 + k then mdv d r (IntKind.i64.wrap (d + r)) else oneP k d q), 79), (P, 300, oneP k d, 79)] w' :=
      ⟨(hs.hit (g2 := false) (by rw [hA.2.2.2]; rfl)).F, fun x hx => by
        simp only [List.mem_cons, List.not_mem_nil, or_false] at hx
        rcases hx with rfl | rfl | rfl
        · exact ⟨fE.lo, fE.blk.congr fun i _ => hA.2.2.1 i⟩
        · exact ⟨fD.lo, fD.blk.congr fun i hi => hA.1 i hi⟩
        · exact hs.B _ (.head _)⟩
    have hPq : P ≠ q := by have := (hs.B _ (.head _)).1; dsimp only at this; omega
    have hDq : D ≠ q := by have := fD.lo; omega
    have hEq : E ≠ q := by have := fE.lo; omega
    have HM := Lib.hid (And.intro hm hq2)
    have Hd := Lib.hid (And.intro hd hr)
    clear hs fD fE hA hw hm hq2 hu9 hu10 hu11 hd hr HD
    generalize hv : IntKind.i64.wrap (d + r) = v at *
    have HV := Lib.hid hv
    clear hv
    go_wp2_with fail
    have HL := Lib.hid L
    clear L
    go_loopw [12] (fun i' wr => ∃ j : Nat, j ≤ 24 ∧ i' = .int .i64 j ∧ Fr W0 q 0 false [(E, 24, (fun i => if i = k then quov d v else 0), 100), (D, 300, (fun q => if q = 276 + k then mdv d r v else oneP k d q), 79), (P, 300, oneP k d, 79)] wr) (fun i' _ => 24 - (intOf i').toNat)
    case atStart => exact ⟨0, by omega, rfl, HL.out⟩
    case round =>
      clear HL
      obtain ⟨j, hj, rfl, L⟩ := hrel
      by_cases hlt : j < 24
      · have hltI : (j : Int) < 24 := by omega
        have hj0 : (0 : Int) ≤ (j : Int) := by omega
        by_cases e : j = k
        · subst e
          have HL := Lib.hid L.drew
          clear L
          go_upto_region 12 with (fail)
          refine rg_in (fun w' => Fr W0 q 0 false [(E, 24, (fun i => if i = j then quov d v else 0), 100), (D, 300, (fun q => if q = 276 + j then mdv d r v else oneP j d q), 79), (P, 300, oneP j d, 79)] w') (by kernel_rfl) (by kernel_rfl) HL.out ?_
          refine rq_start ?_
          refine rq_pure (.int .i64 (j : Int)) (by kernel_rfl) (fun w => by first | kernel_rfl | go_simp) ?_
          apply rq_as
          focus (go_simp; exact rfl)
          refine rq_pure (.int .i64 (j : Int)) (by kernel_rfl) (fun w => by first | kernel_rfl | go_simp) ?_
          apply rq_as
          focus (go_simp; exact rfl)
          refine rq_pure (.bool false) (by kernel_rfl) (fun w => by go_simp) ?_
          apply rq_as
          focus (go_simp; exact rfl)
          refine rq_pure (.bool false) (by kernel_rfl) (fun w => by first | kernel_rfl | go_simp) ?_
          apply rq_as
          focus (go_simp; exact rfl)
          refine rq_skip (by kernel_rfl) ?_
          apply rq_as
          focus (go_simp; exact rfl)
          refine rq_skip (by kernel_rfl) ?_
          apply rq_as
          focus (go_simp; exact rfl)
          refine rq_skip (by kernel_rfl) ?_
          apply rq_as
          focus (go_simp; exact rfl)
          refine rq_skip (by kernel_rfl) ?_
          apply rq_as
          focus (go_simp; exact rfl)
          refine rq_skip (by kernel_rfl) ?_
          apply rq_as
          focus (go_simp; exact rfl)
          refine rq_skip (by kernel_rfl) ?_
          apply rq_as
          focus (go_simp; exact rfl)
          refine rq_skip (by kernel_rfl) ?_
          apply rq_as
          focus (go_simp; exact rfl)
          refine rq_skip (by kernel_rfl) ?_
          apply rq_as
          focus (go_simp; exact rfl)
          refine rq_skip (by kernel_rfl) ?_
          apply rq_as
          focus (go_simp; exact rfl)
          refine rq_skip (by kernel_rfl) ?_
          apply rq_as
          focus (go_simp; exact rfl)
          refine rq_skip (by kernel_rfl) ?_
          apply rq_as
          focus (go_simp; exact rfl)
          refine rq_skip (by kernel_rfl) ?_
          apply rq_as
          focus (go_simp; exact rfl)
          refine rq_skip (by kernel_rfl) ?_
          apply rq_as
          focus (go_simp; exact rfl)
          refine rq_skip (by kernel_rfl) ?_
          apply rq_as
          focus (go_simp; exact rfl)
          refine rq_skip (by kernel_rfl) ?_
          apply rq_as
          focus (go_simp; exact rfl)
          refine rq_pure (.bool false) (by kernel_rfl) (fun w => by first | kernel_rfl | go_simp) ?_
          apply rq_as
          focus (go_simp; exact rfl)
          refine ⟨?_⟩
          intro wz hz
          go_wp2_with fail
          go_roundw
          case rel => exact ⟨j + 1, by omega, by go_num, hz⟩
          case measure => simp [intOf]; omega
        · have e2 : ¬ (j : Int) = (k : Int) := by omega
          have c1 := row_at (L.drew.get (.tail _ (.head _)) : Blk _ D (rowA 300 _) 79) (k := 276 + j) (by omega) (show _ = (1 : Int) by rw [if_neg (by omega)]; unfold oneP; rw [if_neg (by omega), if_neg (by omega)])
          have c2 := row_at (L.drew.get (.tail _ (.tail _ (.head _))) : Blk _ P (rowA 300 _) 79) (k := 276 + j) (by omega) (show _ = (1 : Int) by unfold oneP; rw [if_neg (by omega), if_neg (by omega)])
          have c3 := row_at (L.drew.get (.head _) : Blk _ E (rowA 24 _) 100) hlt (show _ = (0 : Int) by rw [if_neg e])
          have HL := Lib.hid L.drew
          clear L
          go_upto_region 12 with (fail)
          refine rg_in (fun w' => Fr W0 q 0 false [(E, 24, (fun i => if i = k then quov d v else 0), 100), (D, 300, (fun q => if q = 276 + k then mdv d r v else oneP k d q), 79), (P, 300, oneP k d, 79)] w' ∧ w'.cell? ⟨D, 276 + j, none⟩ = some (.int .i64 1) ∧ w'.cell? ⟨P, 276 + j, none⟩ = some (.int .i64 1) ∧ w'.cell? ⟨E, j, none⟩ = some (.int .i64 0)) (by kernel_rfl) (by kernel_rfl) ⟨HL.out, c1, c2, c3⟩ ?_
          refine rq_start ?_
          clear c1 c2 c3
          refine rq_pure (.int .i64 (j : Int)) (by kernel_rfl) (fun w => by first | kernel_rfl | go_simp) ?_
          apply rq_as
          focus (go_simp; exact rfl)
          refine rq_pure (.int .i64 (k : Int)) (by kernel_rfl) (fun w => by first | kernel_rfl | go_simp) ?_
          apply rq_as
          focus (go_simp; exact rfl)
          refine rq_pure (.bool true) (by kernel_rfl) (fun w => by go_simp) ?_
          apply rq_as
          focus (go_simp; exact rfl)
          refine rq_pure (.bool true) (by kernel_rfl) (fun w => by first | kernel_rfl | go_simp) ?_
          apply rq_as
          focus (go_simp; exact rfl)
          refine rq_pure (.int .i64 (j : Int)) (by kernel_rfl) (fun w => by first | kernel_rfl | go_simp) ?_
          apply rq_as
          focus (go_simp; exact rfl)
          refine rq_pure (.pointer (some ⟨D, 276, none⟩)) (by kernel_rfl) (fun w => by first | kernel_rfl | go_simp) ?_
          apply rq_as
          focus (go_simp; exact rfl)
          refine rq_pure (.pointer (some ⟨D, 276 + j, none⟩)) (by kernel_rfl) (fun w => by go_simp) ?_
          apply rq_as
          focus (go_simp; exact rfl)
          refine rq_in (.int .i64 1) (by kernel_rfl) (fun w h => by have hc := h.2.1; go_simp) ?_
          apply rq_as
          focus (go_simp; exact rfl)
          refine rq_pure (.int .i64 (j : Int)) (by kernel_rfl) (fun w => by first | kernel_rfl | go_simp) ?_
          apply rq_as
          focus (go_simp; exact rfl)
          refine rq_pure (.pointer (some ⟨P, 276, none⟩)) (by kernel_rfl) (fun w => by first | kernel_rfl | go_simp) ?_
          apply rq_as
          focus (go_simp; exact rfl)
          refine rq_pure (.pointer (some ⟨P, 276 + j, none⟩)) (by kernel_rfl) (fun w => by go_simp) ?_
          apply rq_as
          focus (go_simp; exact rfl)
          refine rq_in (.int .i64 1) (by kernel_rfl) (fun w h => by have hc := h.2.2.1; go_simp) ?_
          apply rq_as
          focus (go_simp; exact rfl)
          refine rq_pure (.bool false) (by kernel_rfl) (fun w => by first | kernel_rfl | go_simp) ?_
          apply rq_as
          focus (go_simp; exact rfl)
          refine rq_pure (.bool false) (by kernel_rfl) (fun w => by first | kernel_rfl | go_simp) ?_
          apply rq_as
          focus (go_simp; exact rfl)
          refine rq_pure (.int .i64 (j : Int)) (by kernel_rfl) (fun w => by first | kernel_rfl | go_simp) ?_
          apply rq_as
          focus (go_simp; exact rfl)
          refine rq_pure (.pointer (some ⟨E, j, none⟩)) (by kernel_rfl) (fun w => by go_simp) ?_
          apply rq_as
          focus (go_simp; exact rfl)
          refine rq_in (.int .i64 0) (by kernel_rfl) (fun w h => by have hc := h.2.2.2; go_simp) ?_
          apply rq_as
          focus (go_simp; exact rfl)
          refine rq_pure (.bool false) (by kernel_rfl) (fun w => by first | kernel_rfl | go_simp) ?_
          apply rq_as
          focus (go_simp; exact rfl)
          refine rq_pure (.bool false) (by kernel_rfl) (fun w => by first | kernel_rfl | go_simp) ?_
          apply rq_as
          focus (go_simp; exact rfl)
          refine rq_pure (.bool false) (by kernel_rfl) (fun w => by first | kernel_rfl | go_simp) ?_
          apply rq_as
          focus (go_simp; exact rfl)
          refine ⟨?_⟩
          intro wz hz
          replace hz := hz.1
          go_wp2_with fail
          go_roundw
          case rel => exact ⟨j + 1, by omega, by go_num, hz⟩
          case measure => simp [intOf]; omega
      · obtain rfl : j = 24 := by omega
        clear hlt hj
        have hl : ¬ ((24 : Nat) : Int) < 24 := by omega
        go_upto_region 14 with (fail)
        have c1 := row_at (L.drew.get (.tail _ (.head _)) : Blk _ D (rowA 300 _) 79) (k := 276 + k) (by omega) (show _ = mdv d r v by rw [if_pos rfl])
        have f1 := L.drew.F.fl fl
        have L1 := Lib.hid L.drew
        have k0 : (0 : Int) ≤ (k : Int) := by omega
        have k24 : (k : Int) < 24 := by omega
        clear L hl
        go_region_held3 (fun w' => w'.cell? ⟨D, 276 + k, none⟩ = some (.int .i64 (mdv d r v)))
          ((assumption))
          (first
            | (go_at_call 39; rw [HV.out]; refine (bmuldiv_mdv q 0 d r v _ _ f1).mono ?_; rintro e w8 ⟨rfl, k8⟩; have j1 := keep_flag k8 hDq c1; have L8 := L1.out.flag hpw k8))
        replace L8 := L8.hit (g2 := false) (by rw [HM.out.1]; rfl)
        clear c1 f1 L1 k8 j1
        go_upto_region 15 with (fail)
        have c1 := row_at (L8.drew.get (.head _) : Blk _ E (rowA 24 _) 100) (k := k) (by omega) (show _ = quov d v by rw [if_pos rfl])
        have f1 := L8.drew.F.fl fl
        have L1 := Lib.hid L8.drew
        clear L8
        go_region_held3 (fun w' => w'.cell? ⟨E, k, none⟩ = some (.int .i64 (quov d v)))
          ((assumption))
          (first
            | (go_at_call 37; rw [HV.out]; refine (bdiv_quov q 0 d v _ _ f1).mono ?_; rintro e w9 ⟨rfl, k9⟩; have j1 := keep_flag k9 hEq c1; have L9 := L1.out.flag hpw k9))
        replace L9 := L9.hit (g2 := false) (by rw [HM.out.2]; rfl)
        clear c1 f1 L1 k9 j1
        have hcf := (L9.F.fl fl).cell
        have hD := (L9.get (.tail _ (.head _)) : Blk _ D (rowA 300 _) 79)
        have hP := (L9.get (.tail _ (.tail _ (.head _))) : Blk _ P (rowA 300 _) 79)
        go_upto_region 16 with (fail)
        have iD : Ints w9 D 0 276 (oneP k d) := ⟨fun t ht => by rw [hD.ints.at_ t (by omega), if_neg (by omega)]⟩
        have iP : Ints w9 P 0 276 (oneP k d) := ⟨fun t ht => hP.ints.at_ t (by omega)⟩
        have hbz := L9.F
        clear hD hP L9
        refine wq_start ?_
        refine wq_val (.int .i64 v) (by kernel_rfl) (by first | kernel_rfl | go_simp) ?_
        apply wq_as
        focus (go_simp; exact rfl)
        refine wq_val (.int .i64 d) (by kernel_rfl) (by first | kernel_rfl | go_simp) ?_
        apply wq_as
        focus (go_simp; exact rfl)
        refine wq_val (.int .i64 r) (by kernel_rfl) (by first | kernel_rfl | go_simp) ?_
        apply wq_as
        focus (go_simp; exact rfl)
        refine wq_val (.int .i64 v) (by kernel_rfl) (by have hvv := HV.out; go_simp) ?_
        apply wq_as
        focus (go_simp; exact rfl)
        refine wq_val (.bool true) (by kernel_rfl) (by go_simp) ?_
        apply wq_as
        focus (go_simp; exact rfl)
        refine wq_val (.bool true) (by kernel_rfl) (by first | kernel_rfl | go_simp) ?_
        apply wq_as
        focus (go_simp; exact rfl)
        refine wq_val (.int .i64 0) (by kernel_rfl) (by kernel_rfl) ?_
        apply wq_as
        focus (go_simp; exact rfl)
        refine wq_val (.bool true) (by kernel_rfl) (by first | kernel_rfl | go_simp) ?_
        apply wq_as
        focus (go_simp; exact rfl)
        refine wq_val (.bool true) (by kernel_rfl) (by first | kernel_rfl | go_simp) ?_
        apply wq_as
        focus (go_simp; exact rfl)
        refine wq_val (.bool true) (by kernel_rfl) (by first | kernel_rfl | go_simp) ?_
        apply wq_as
        focus (go_simp; exact rfl)
        refine wq_val (.int .i64 0) (by kernel_rfl) (by kernel_rfl) ?_
        apply wq_as
        focus (go_simp; exact rfl)
        refine wq_val (.bool true) (by kernel_rfl) (by first | kernel_rfl | go_simp) ?_
        apply wq_as
        focus (go_simp; exact rfl)
        refine wq_val (.bool true) (by kernel_rfl) (by first | kernel_rfl | go_simp) ?_
        apply wq_as
        focus (go_simp; exact rfl)
        refine wq_val (.bool true) (by kernel_rfl) (by first | kernel_rfl | go_simp) ?_
        apply wq_as
        focus (go_simp; exact rfl)
        refine wq_val (.int .i64 0) (by kernel_rfl) (by kernel_rfl) ?_
        apply wq_as
        focus (go_simp; exact rfl)
        refine wq_val (.bool true) (by kernel_rfl) (by first | kernel_rfl | go_simp) ?_
        apply wq_as
        focus (go_simp; exact rfl)
        refine wq_val (.bool true) (by kernel_rfl) (by first | kernel_rfl | go_simp) ?_
        apply wq_as
        focus (go_simp; exact rfl)
        refine wq_val (.bool true) (by kernel_rfl) (by first | kernel_rfl | go_simp) ?_
        apply wq_as
        focus (go_simp; exact rfl)
        refine wq_val (.int .i64 0) (by kernel_rfl) (by kernel_rfl) ?_
        apply wq_as
        focus (go_simp; exact rfl)
        refine wq_val (.bool true) (by kernel_rfl) (by first | kernel_rfl | go_simp) ?_
        apply wq_as
        focus (go_simp; exact rfl)
        refine wq_val (.bool true) (by kernel_rfl) (by first | kernel_rfl | go_simp) ?_
        apply wq_as
        focus (go_simp; exact rfl)
        refine wq_val (.bool true) (by kernel_rfl) (by first | kernel_rfl | go_simp) ?_
        apply wq_as
        focus (go_simp; exact rfl)
        refine wq_val (.pointer (some ⟨D, 0, none⟩)) (by kernel_rfl) (by first | kernel_rfl | go_simp) ?_
        apply wq_as
        focus (go_simp; exact rfl)
        refine wq_mid 76 (.tmp 126) D 0 276 (oneP k d) _ (by kernel_rfl) rfl (by kernel_rfl) iD Try.underlying76 rfl rowUSize ?_
        apply wq_as
        focus (go_simp; exact rfl)
        refine wq_val (.pointer (some ⟨P, 0, none⟩)) (by kernel_rfl) (by first | kernel_rfl | go_simp) ?_
        apply wq_as
        focus (go_simp; exact rfl)
        refine wq_mid 76 (.tmp 128) P 0 276 (oneP k d) _ (by kernel_rfl) rfl (by kernel_rfl) iP Try.underlying76 rfl rowUSize ?_
        apply wq_as
        focus (go_simp; exact rfl)
        refine wq_eql 76 (.tmp 127) (.tmp 129) 76 276 (oneP k d) (oneP k d) (by kernel_rfl) (by kernel_rfl) rfl (by kernel_rfl) (by kernel_rfl) ?_
        rw [eqB_same]
        apply wq_as
        focus (go_simp; exact rfl)
        refine wq_val (.bool true) (by kernel_rfl) (by first | kernel_rfl | go_simp) ?_
        apply wq_as
        focus (go_simp; exact rfl)
        refine wq_val (.bool true) (by kernel_rfl) (by first | kernel_rfl | go_simp) ?_
        apply wq_as
        focus (go_simp; exact rfl)
        refine wq_val (.pointer (some ⟨q, 0, none⟩)) (by kernel_rfl) (by first | kernel_rfl | go_simp) ?_
        apply wq_as
        focus (go_simp; exact rfl)
        refine wq_val (.pointer (some ⟨q, 0, none⟩)) (by kernel_rfl) (by first | kernel_rfl | go_simp) ?_
        apply wq_as
        focus (go_simp; exact rfl)
        refine wq_val (.pointer (some ⟨q, 0, none⟩)) (by kernel_rfl) (by first | kernel_rfl | go_simp) ?_
        apply wq_as
        focus (go_simp; exact rfl)
        refine wq_val (.bool false) (by kernel_rfl) (by go_simp) ?_
        apply wq_as
        focus (go_simp; exact rfl)
        refine wq_val (.bool true) (by kernel_rfl) (by first | kernel_rfl | go_simp) ?_
        apply wq_as
        focus (go_simp; exact rfl)
        refine wq_val (.bool true) (by kernel_rfl) (by first | kernel_rfl | go_simp) ?_
        apply wq_as
        focus (go_simp; exact rfl)
        refine wq_val (.bool true) (by kernel_rfl) (by first | kernel_rfl | go_simp) ?_
        apply wq_as
        focus (go_simp; exact rfl)
        refine ⟨?_⟩
        have hbe := hb0.trans (hbz.below hb0.size hq)
        go_wp2_with fail
        go_ret
        exact ⟨rfl, hbe⟩
theorem walk (k : Int) (_ : -9223372036854775808 ≤ k ∧ k ≤ 9223372036854775807) (d : Int) (_ : -9223372036854775808 ≤ d ∧ d ≤ 9223372036854775807) (r : Int) (_ : -9223372036854775808 ≤ r ∧ r ≤ 9223372036854775807) (w : World) : Good k d r w := by
  by_cases h : k < 0 ∨ 23 < k ∨ d < 1048576 ∨ 36028797018963968 < d ∨ r < 1048576 ∨ 36028797018963968 < r
  · exact far k d r h w
  · obtain ⟨m, rfl⟩ := Int.eq_ofNat_of_zero_le (a := k) (by omega)
    exact near m d r (by omega) (by omega) (by omega) w
end Go.Proofs.Ytplffehgjdinnaa.biermanOne
