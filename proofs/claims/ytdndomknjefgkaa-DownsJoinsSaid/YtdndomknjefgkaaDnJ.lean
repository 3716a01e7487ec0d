/- The document's own sampler: a sample is put in. -/
import Derived.Test.YtdndomknjefgkaaDnI
namespace Go.Proofs.Ytdndomknjefgkaa.Rg
open Go.RowKit
theorem rgoodr (f : Nat → Int) (b : Bool) (w : World) (hb : okI f = b) : Calls Try.prog 16 #[.agg (rowA 8 f)] w fun e w' => e = .returned (.bool b) ∧ Below w.heap.size w w' := by
  subst hb; exact rgood_any f w
/-- What lies there while the document's own takes a sample. -/
structure Rt (w : World) (A s : Nat) (G i : Nat → Int) (W : World) : Prop where
  a : Blk W A (rowA 10 G) 45
  b : Blk W s (rowA 8 i) 32
  r : Blk W (s + 1) (rowA 8 fun _ => 0) 32
  t : Tch [A] w W
theorem Rt.drew {w W : World} {A s : Nat} {G i : Nat → Int} (m : Rt w A s G i W) : Rt w A s G i W.drew := ⟨m.a, m.b, m.r, m.t.drew⟩
theorem Rt.set {w W : World} {A s : Nat} {G i : Nat → Int} (m : Rt w A s G i W) (hA : A < s) (k : Nat) (hk : k < 10) (v : Int) : Rt w A s (upd G k v) i (W.setCell ⟨A, k, none⟩ (.int .i64 v)) :=
  ⟨by have := m.a.set (i := k) (.int .i64 v); rwa [rowA_set G hk] at this, m.b.other (by omega) _, m.r.other (by omega) _, m.t.set (.inl (by simp)) _ _⟩
theorem Rt.congr {w W : World} {A s : Nat} {G G' i : Nat → Int} (m : Rt w A s G i W) (h : ∀ j, j < 10 → G j = G' j) : Rt w A s G' i W := ⟨m.a.congr h, m.b, m.r, m.t⟩
/-- The sampler's numbers when k of the three have been added. -/
def gk (F i : Nat → Int) (k j : Nat) : Int := if j = 0 then F 0 else if j = 1 then i 0 else if j = 2 then i 0 else if j = 3 then F 3 + i 1 else if j < 7 then (if j < 4 + k then F j + i (j - 2) else F j) else (if j < 7 + k then F j + i (j - 2) else F j)
theorem gk0 (F i : Nat → Int) : ∀ j, j < 10 → upd (upd (upd F 1 (i 0)) 2 (i 0)) 3 (F 3 + i 1) j = gk F i 0 j := fun j hj => by
  match j, hj with
  | 0, _ | 1, _ | 2, _ | 3, _ | 4, _ | 5, _ | 6, _ | 7, _ | 8, _ | 9, _ => rfl
theorem gk_a (F i : Nat → Int) {k : Nat} (hk : k < 3) : gk F i k (4 + k) = F (4 + k) := by
  match k, hk with
  | 0, _ | 1, _ | 2, _ => rfl
theorem gk_b (F i : Nat → Int) {k : Nat} (hk : k < 3) (v : Int) : upd (gk F i k) (4 + k) v (7 + k) = F (7 + k) := by
  match k, hk with
  | 0, _ | 1, _ | 2, _ => rfl
theorem gk_next (F i : Nat → Int) {k : Nat} (hk : k < 3) : ∀ j, j < 10 → upd (upd (gk F i k) (4 + k) (F (4 + k) + i (2 + k))) (7 + k) (F (7 + k) + i (5 + k)) j = gk F i (k + 1) j := fun j hj => by
  match k, hk with
  | 0, _ | 1, _ | 2, _ =>
    match j, hj with
    | 0, _ | 1, _ | 2, _ | 3, _ | 4, _ | 5, _ | 6, _ | 7, _ | 8, _ | 9, _ => rfl
def actR (A s : Nat) (i : Nat → Int) (a9 a10 a11 a12 a13 a14 a15 a16 a17 a18 a19 a20 : Value) : Act := ⟨⟨.pointer (some ⟨A, 0, none⟩) :: .agg (rowA 8 i) :: undef :: .pointer (some ⟨s, 0, none⟩) :: .pointer (some ⟨s + 1, 0, none⟩) :: .bool false :: .int .i64 0 :: undef :: undef :: a9 :: a10 :: a11 :: a12 :: a13 :: a14 :: a15 :: a16 :: a17 :: a18 :: a19 :: a20 :: undef :: undef :: undef :: undef :: undef :: undef :: undef :: undef :: undef :: undef :: undef :: undef :: undef :: undef :: undef :: undef :: undef :: undef :: undef :: undef :: undef :: undef :: undef :: undef :: undef :: undef :: undef :: undef :: undef :: undef :: undef :: undef :: undef :: undef :: undef :: undef :: undef :: undef :: undef :: undef :: undef :: undef :: undef :: undef :: undef :: undef :: undef :: undef :: undef :: undef :: undef :: undef :: undef :: undef :: undef :: undef :: undef :: undef :: undef :: undef :: undef :: undef :: undef :: undef :: undef :: undef :: undef :: undef :: undef :: undef :: undef :: undef :: undef :: undef :: undef :: undef :: undef :: undef :: undef :: undef :: undef :: undef :: undef :: undef :: []⟩, []⟩
set_option maxRecDepth 100000 in
set_option maxHeartbeats 16000000 in
theorem rput_bad0 (A : Nat) (i : Nat → Int) (w : World) (hk : okI i = false) :
    Calls Try.prog 15 #[.pointer (some ⟨A, 0, none⟩), .agg (rowA 8 i)] w fun e w' => e = .returned (.tuple #[.agg (rowA 8 fun _ => 0), .bool false, .int .i64 1]) ∧ Below w.heap.size w w' := by
  go_enter Try.func15, Try.ntmps15
  go_upto_region 1 with (fail)
  have hs : Blk ((w.alloc (.cells (rowA 8 i) 32)).alloc (.cells (rowA 8 fun _ => 0) 32)) w.heap.size (rowA 8 i) 32 := (Blk.made _ _ _ rfl).alloc _
  have hr : Blk ((w.alloc (.cells (rowA 8 i) 32)).alloc (.cells (rowA 8 fun _ => 0) 32)) (w.heap.size + 1) (rowA 8 fun _ => 0) 32 := Blk.made _ _ _ (by simp)
  have hK : Below w.heap.size w ((w.alloc (.cells (rowA 8 i) 32)).alloc (.cells (rowA 8 fun _ => 0) 32)) := ((Below.refl _ _).alloc (Nat.le_refl _) _).alloc (by simp) _
  change Code.wp _ _ _ _ ((w.alloc (.cells (rowA 8 i) 32)).alloc (.cells (rowA 8 fun _ => 0) 32))
  generalize (w.alloc (.cells (rowA 8 i) 32)).alloc (.cells (rowA 8 fun _ => 0) 32) = X at *
  generalize hsz : w.heap.size = s at *
  refine rg_in (Below X.heap.size X) (by kernel_rfl) (by kernel_rfl) (Below.refl _ _).drew ?_
  refine rq_start ?_
  refine rq_as (b := actR A s i undef undef undef undef undef undef undef undef undef undef undef undef) (by kernel_rfl) ?_
  refine rq_row 32 (.tmp 3) s 8 i 32 _ (by kernel_rfl) rfl (by kernel_rfl) (fun w hc => hs.below hc hs.lt) Try.underlying32 rfl imuSize ?_
  refine rq_as (b := actR A s i (.agg (rowA 8 i)) undef undef undef undef undef undef undef undef undef undef undef) (by kernel_rfl) ?_
  refine rq_call (.bool false) 16 #[.agg (rowA 8 i)] (by kernel_rfl) (fun _ => by kernel_rfl) (fun w hc => (rgoodr i false w hk).mono fun e w' ⟨he, hb⟩ => ⟨he, hc.trans (hb.mono hc.size)⟩) ?_
  refine rq_as (b := actR A s i (.agg (rowA 8 i)) (.bool false) undef undef undef undef undef undef undef undef undef undef) (by kernel_rfl) ?_
  refine rq_pure (.bool true) (by kernel_rfl) (fun _ => by kernel_rfl) ?_
  refine rq_as (b := actR A s i (.agg (rowA 8 i)) (.bool false) (.bool true) undef undef undef undef undef undef undef undef undef) (by kernel_rfl) ?_
  refine rq_pure (.bool true) (by kernel_rfl) (fun _ => by kernel_rfl) ?_
  refine rq_as (b := actR A s i (.agg (rowA 8 i)) (.bool false) (.bool true) (.bool true) undef undef undef undef undef undef undef undef) (by kernel_rfl) ?_
  refine rq_skip (by kernel_rfl) ?_
  refine rq_as (b := actR A s i (.agg (rowA 8 i)) (.bool false) (.bool true) (.bool true) (undef) undef undef undef undef undef undef undef) (by kernel_rfl) ?_
  refine rq_skip (by kernel_rfl) ?_
  refine rq_as (b := actR A s i (.agg (rowA 8 i)) (.bool false) (.bool true) (.bool true) (undef) (undef) undef undef undef undef undef undef) (by kernel_rfl) ?_
  refine rq_skip (by kernel_rfl) ?_
  refine rq_as (b := actR A s i (.agg (rowA 8 i)) (.bool false) (.bool true) (.bool true) (undef) (undef) (undef) undef undef undef undef undef) (by kernel_rfl) ?_
  refine rq_skip (by kernel_rfl) ?_
  refine rq_as (b := actR A s i (.agg (rowA 8 i)) (.bool false) (.bool true) (.bool true) (undef) (undef) (undef) (undef) undef undef undef undef) (by kernel_rfl) ?_
  refine rq_skip (by kernel_rfl) ?_
  refine rq_as (b := actR A s i (.agg (rowA 8 i)) (.bool false) (.bool true) (.bool true) (undef) (undef) (undef) (undef) (undef) undef undef undef) (by kernel_rfl) ?_
  refine rq_skip (by kernel_rfl) ?_
  refine rq_as (b := actR A s i (.agg (rowA 8 i)) (.bool false) (.bool true) (.bool true) (undef) (undef) (undef) (undef) (undef) (undef) undef undef) (by kernel_rfl) ?_
  refine rq_skip (by kernel_rfl) ?_
  refine rq_as (b := actR A s i (.agg (rowA 8 i)) (.bool false) (.bool true) (.bool true) (undef) (undef) (undef) (undef) (undef) (undef) (undef) undef) (by kernel_rfl) ?_
  refine rq_pure (.bool true) (by kernel_rfl) (fun _ => by kernel_rfl) ?_
  refine rq_as (b := actR A s i (.agg (rowA 8 i)) (.bool false) (.bool true) (.bool true) (undef) (undef) (undef) (undef) (undef) (undef) (undef) (.bool true)) (by kernel_rfl) ?_
  refine rq_nil fun w1 hb => ?_
  have hr1 := hr.below hb hr.lt
  have hsX : s ≤ X.heap.size := by have := hK.size; omega
  have hK1 := hK.trans (hb.mono hsX)
  clear hs hr hK hb
  unfold actR
  go_wp2_with ((with_reducible refine row_store 32 (.tmp 4) (.tmp 21) ?_ ?_ (s + 1) 8 (fun _ => 0) (fun _ => 0) 32 ?_ ?_ hr1 imuSize ?_); rfl; rfl; rfl; rfl)
  refine bodyPost_ret (v := .tuple #[.agg (rowA 8 fun _ => 0), .bool false, .int .i64 1]) (results_rowTT rfl _ _ (s + 1) 8 _ _ _ rfl hr1.setRow Try.underlying32 rfl imuSize rfl rfl) rfl ⟨rfl, ?_⟩
  rw [hsz]
  exact below_setRow hK1 (Nat.le_succ s) _
set_option maxRecDepth 100000 in
set_option maxHeartbeats 16000000 in
theorem rput_bad1 (A : Nat) (F i : Nat → Int) (w : World) (hA0 : Blk w A (rowA 10 F) 45) (hk : okI i = true) (hle : i 0 ≤ F 1) :
    Calls Try.prog 15 #[.pointer (some ⟨A, 0, none⟩), .agg (rowA 8 i)] w fun e w' => e = .returned (.tuple #[.agg (rowA 8 fun _ => 0), .bool false, .int .i64 1]) ∧ Below w.heap.size w w' := by
  go_enter Try.func15, Try.ntmps15
  go_upto_region 1 with (fail)
  have hs : Blk ((w.alloc (.cells (rowA 8 i) 32)).alloc (.cells (rowA 8 fun _ => 0) 32)) w.heap.size (rowA 8 i) 32 := (Blk.made _ _ _ rfl).alloc _
  have hr : Blk ((w.alloc (.cells (rowA 8 i) 32)).alloc (.cells (rowA 8 fun _ => 0) 32)) (w.heap.size + 1) (rowA 8 fun _ => 0) 32 := Blk.made _ _ _ (by simp)
  have hK : Below w.heap.size w ((w.alloc (.cells (rowA 8 i) 32)).alloc (.cells (rowA 8 fun _ => 0) 32)) := ((Below.refl _ _).alloc (Nat.le_refl _) _).alloc (by simp) _
  have hA : Blk ((w.alloc (.cells (rowA 8 i) 32)).alloc (.cells (rowA 8 fun _ => 0) 32)) A (rowA 10 F) 45 := (hA0.alloc _).alloc _
  change Code.wp _ _ _ _ ((w.alloc (.cells (rowA 8 i) 32)).alloc (.cells (rowA 8 fun _ => 0) 32))
  generalize (w.alloc (.cells (rowA 8 i) 32)).alloc (.cells (rowA 8 fun _ => 0) 32) = X at *
  generalize hsz : w.heap.size = s at *
  refine rg_in (Below X.heap.size X) (by kernel_rfl) (by kernel_rfl) (Below.refl _ _).drew ?_
  refine rq_start ?_
  refine rq_as (b := actR A s i undef undef undef undef undef undef undef undef undef undef undef undef) (by kernel_rfl) ?_
  refine rq_row 32 (.tmp 3) s 8 i 32 _ (by kernel_rfl) rfl (by kernel_rfl) (fun w hc => hs.below hc hs.lt) Try.underlying32 rfl imuSize ?_
  refine rq_as (b := actR A s i (.agg (rowA 8 i)) undef undef undef undef undef undef undef undef undef undef undef) (by kernel_rfl) ?_
  refine rq_call (.bool true) 16 #[.agg (rowA 8 i)] (by kernel_rfl) (fun _ => by kernel_rfl) (fun w hc => (rgoodr i true w hk).mono fun e w' ⟨he, hb⟩ => ⟨he, hc.trans (hb.mono hc.size)⟩) ?_
  refine rq_as (b := actR A s i (.agg (rowA 8 i)) (.bool true) undef undef undef undef undef undef undef undef undef undef) (by kernel_rfl) ?_
  refine rq_pure (.bool false) (by kernel_rfl) (fun _ => by kernel_rfl) ?_
  refine rq_as (b := actR A s i (.agg (rowA 8 i)) (.bool true) (.bool false) undef undef undef undef undef undef undef undef undef) (by kernel_rfl) ?_
  refine rq_pure (.bool false) (by kernel_rfl) (fun _ => by kernel_rfl) ?_
  refine rq_as (b := actR A s i (.agg (rowA 8 i)) (.bool true) (.bool false) (.bool false) undef undef undef undef undef undef undef undef) (by kernel_rfl) ?_
  refine rq_pure (.pointer (some ⟨s, 0, none⟩)) (by kernel_rfl) (fun _ => by kernel_rfl) ?_
  refine rq_as (b := actR A s i (.agg (rowA 8 i)) (.bool true) (.bool false) (.bool false) (.pointer (some ⟨s, 0, none⟩)) undef undef undef undef undef undef undef) (by kernel_rfl) ?_
  refine rq_i64 (.tmp 13) s 0 (i 0) (by kernel_rfl) rfl (by kernel_rfl) (fun w hc => (hs.below hc hs.lt).cell 0) ?_
  refine rq_as (b := actR A s i (.agg (rowA 8 i)) (.bool true) (.bool false) (.bool false) (.pointer (some ⟨s, 0, none⟩)) (.int .i64 (i 0)) undef undef undef undef undef undef) (by kernel_rfl) ?_
  refine rq_pure (.pointer (some ⟨A, 0, none⟩)) (by kernel_rfl) (fun _ => by kernel_rfl) ?_
  refine rq_as (b := actR A s i (.agg (rowA 8 i)) (.bool true) (.bool false) (.bool false) (.pointer (some ⟨s, 0, none⟩)) (.int .i64 (i 0)) (.pointer (some ⟨A, 0, none⟩)) undef undef undef undef undef) (by kernel_rfl) ?_
  refine rq_pure (.pointer (some ⟨A, 0, none⟩)) (by kernel_rfl) (fun _ => by kernel_rfl) ?_
  refine rq_as (b := actR A s i (.agg (rowA 8 i)) (.bool true) (.bool false) (.bool false) (.pointer (some ⟨s, 0, none⟩)) (.int .i64 (i 0)) (.pointer (some ⟨A, 0, none⟩)) (.pointer (some ⟨A, 0, none⟩)) undef undef undef undef) (by kernel_rfl) ?_
  refine rq_pure (.pointer (some ⟨A, 1, none⟩)) (by kernel_rfl) (fun _ => by kernel_rfl) ?_
  refine rq_as (b := actR A s i (.agg (rowA 8 i)) (.bool true) (.bool false) (.bool false) (.pointer (some ⟨s, 0, none⟩)) (.int .i64 (i 0)) (.pointer (some ⟨A, 0, none⟩)) (.pointer (some ⟨A, 0, none⟩)) (.pointer (some ⟨A, 1, none⟩)) undef undef undef) (by kernel_rfl) ?_
  refine rq_i64 (.tmp 17) A 1 (F 1) (by kernel_rfl) rfl (by kernel_rfl) (fun w hc => (hA.below hc hA.lt).cell 1) ?_
  refine rq_as (b := actR A s i (.agg (rowA 8 i)) (.bool true) (.bool false) (.bool false) (.pointer (some ⟨s, 0, none⟩)) (.int .i64 (i 0)) (.pointer (some ⟨A, 0, none⟩)) (.pointer (some ⟨A, 0, none⟩)) (.pointer (some ⟨A, 1, none⟩)) (.int .i64 (F 1)) undef undef) (by kernel_rfl) ?_
  refine rq_pure (.bool (decide (i 0 ≤ F 1))) (by kernel_rfl) (fun _ => by kernel_rfl) ?_
  refine rq_as (b := actR A s i (.agg (rowA 8 i)) (.bool true) (.bool false) (.bool false) (.pointer (some ⟨s, 0, none⟩)) (.int .i64 (i 0)) (.pointer (some ⟨A, 0, none⟩)) (.pointer (some ⟨A, 0, none⟩)) (.pointer (some ⟨A, 1, none⟩)) (.int .i64 (F 1)) (.bool (decide (i 0 ≤ F 1))) undef) (by kernel_rfl) ?_
  refine rq_pure (.bool (decide (i 0 ≤ F 1))) (by kernel_rfl) (fun _ => by kernel_rfl) ?_
  refine rq_as (b := actR A s i (.agg (rowA 8 i)) (.bool true) (.bool false) (.bool false) (.pointer (some ⟨s, 0, none⟩)) (.int .i64 (i 0)) (.pointer (some ⟨A, 0, none⟩)) (.pointer (some ⟨A, 0, none⟩)) (.pointer (some ⟨A, 1, none⟩)) (.int .i64 (F 1)) (.bool (decide (i 0 ≤ F 1))) (.bool (decide (i 0 ≤ F 1)))) (by kernel_rfl) ?_
  refine rq_nil fun w1 hb => ?_
  have hr1 := hr.below hb hr.lt
  have hsX : s ≤ X.heap.size := by have := hK.size; omega
  have hK1 := hK.trans (hb.mono hsX)
  clear hs hr hK hb hA hA0
  unfold actR
  go_wp2_with ((with_reducible refine row_store 32 (.tmp 4) (.tmp 21) ?_ ?_ (s + 1) 8 (fun _ => 0) (fun _ => 0) 32 ?_ ?_ hr1 imuSize ?_); rfl; rfl; rfl; rfl)
  refine bodyPost_ret (v := .tuple #[.agg (rowA 8 fun _ => 0), .bool false, .int .i64 1]) (results_rowTT rfl _ _ (s + 1) 8 _ _ _ rfl hr1.setRow Try.underlying32 rfl imuSize rfl rfl) rfl ⟨rfl, ?_⟩
  rw [hsz]
  exact below_setRow hK1 (Nat.le_succ s) _
set_option maxRecDepth 100000 in
set_option maxHeartbeats 16000000 in
theorem rput_go (A : Nat) (F i : Nat → Int) (w : World) (hA0 : Blk w A (rowA 10 F) 45) (hk : okI i = true) (hle : ¬ i 0 ≤ F 1) (hm : Mod 1 (pend F)) :
    Calls Try.prog 15 #[.pointer (some ⟨A, 0, none⟩), .agg (rowA 8 i)] w fun e w' =>
      e = .returned (.tuple #[.agg (rowA 8 (toldR F i)), .bool (told F i), .int .i64 0]) ∧ Blk w' A (rowA 10 (nextF F i)) 45 ∧ Tch [A] w w' := by
  have HM := Lib.hid (And.intro hm (okI_mod hk))
  clear hm
  go_enter Try.func15, Try.ntmps15
  go_upto_region 1 with (fail)
  have hs : Blk ((w.alloc (.cells (rowA 8 i) 32)).alloc (.cells (rowA 8 fun _ => 0) 32)) w.heap.size (rowA 8 i) 32 := (Blk.made _ _ _ rfl).alloc _
  have hr : Blk ((w.alloc (.cells (rowA 8 i) 32)).alloc (.cells (rowA 8 fun _ => 0) 32)) (w.heap.size + 1) (rowA 8 fun _ => 0) 32 := Blk.made _ _ _ (by simp)
  have hK : Below w.heap.size w ((w.alloc (.cells (rowA 8 i) 32)).alloc (.cells (rowA 8 fun _ => 0) 32)) := ((Below.refl _ _).alloc (Nat.le_refl _) _).alloc (by simp) _
  have hA : Blk ((w.alloc (.cells (rowA 8 i) 32)).alloc (.cells (rowA 8 fun _ => 0) 32)) A (rowA 10 F) 45 := (hA0.alloc _).alloc _
  change Code.wp _ _ _ _ ((w.alloc (.cells (rowA 8 i) 32)).alloc (.cells (rowA 8 fun _ => 0) 32))
  generalize (w.alloc (.cells (rowA 8 i) 32)).alloc (.cells (rowA 8 fun _ => 0) 32) = X at *
  have hsA : A < w.heap.size := hA0.lt
  generalize hsz : w.heap.size = s at *
  refine rg_in (Below X.heap.size X) (by kernel_rfl) (by kernel_rfl) (Below.refl _ _).drew ?_
  refine rq_start ?_
  refine rq_as (b := actR A s i undef undef undef undef undef undef undef undef undef undef undef undef) (by kernel_rfl) ?_
  refine rq_row 32 (.tmp 3) s 8 i 32 _ (by kernel_rfl) rfl (by kernel_rfl) (fun w hc => hs.below hc hs.lt) Try.underlying32 rfl imuSize ?_
  refine rq_as (b := actR A s i (.agg (rowA 8 i)) undef undef undef undef undef undef undef undef undef undef undef) (by kernel_rfl) ?_
  refine rq_call (.bool true) 16 #[.agg (rowA 8 i)] (by kernel_rfl) (fun _ => by kernel_rfl) (fun w hc => (rgoodr i true w hk).mono fun e w' ⟨he, hb⟩ => ⟨he, hc.trans (hb.mono hc.size)⟩) ?_
  refine rq_as (b := actR A s i (.agg (rowA 8 i)) (.bool true) undef undef undef undef undef undef undef undef undef undef) (by kernel_rfl) ?_
  refine rq_pure (.bool false) (by kernel_rfl) (fun _ => by kernel_rfl) ?_
  refine rq_as (b := actR A s i (.agg (rowA 8 i)) (.bool true) (.bool false) undef undef undef undef undef undef undef undef undef) (by kernel_rfl) ?_
  refine rq_pure (.bool false) (by kernel_rfl) (fun _ => by kernel_rfl) ?_
  refine rq_as (b := actR A s i (.agg (rowA 8 i)) (.bool true) (.bool false) (.bool false) undef undef undef undef undef undef undef undef) (by kernel_rfl) ?_
  refine rq_pure (.pointer (some ⟨s, 0, none⟩)) (by kernel_rfl) (fun _ => by kernel_rfl) ?_
  refine rq_as (b := actR A s i (.agg (rowA 8 i)) (.bool true) (.bool false) (.bool false) (.pointer (some ⟨s, 0, none⟩)) undef undef undef undef undef undef undef) (by kernel_rfl) ?_
  refine rq_i64 (.tmp 13) s 0 (i 0) (by kernel_rfl) rfl (by kernel_rfl) (fun w hc => (hs.below hc hs.lt).cell 0) ?_
  refine rq_as (b := actR A s i (.agg (rowA 8 i)) (.bool true) (.bool false) (.bool false) (.pointer (some ⟨s, 0, none⟩)) (.int .i64 (i 0)) undef undef undef undef undef undef) (by kernel_rfl) ?_
  refine rq_pure (.pointer (some ⟨A, 0, none⟩)) (by kernel_rfl) (fun _ => by kernel_rfl) ?_
  refine rq_as (b := actR A s i (.agg (rowA 8 i)) (.bool true) (.bool false) (.bool false) (.pointer (some ⟨s, 0, none⟩)) (.int .i64 (i 0)) (.pointer (some ⟨A, 0, none⟩)) undef undef undef undef undef) (by kernel_rfl) ?_
  refine rq_pure (.pointer (some ⟨A, 0, none⟩)) (by kernel_rfl) (fun _ => by kernel_rfl) ?_
  refine rq_as (b := actR A s i (.agg (rowA 8 i)) (.bool true) (.bool false) (.bool false) (.pointer (some ⟨s, 0, none⟩)) (.int .i64 (i 0)) (.pointer (some ⟨A, 0, none⟩)) (.pointer (some ⟨A, 0, none⟩)) undef undef undef undef) (by kernel_rfl) ?_
  refine rq_pure (.pointer (some ⟨A, 1, none⟩)) (by kernel_rfl) (fun _ => by kernel_rfl) ?_
  refine rq_as (b := actR A s i (.agg (rowA 8 i)) (.bool true) (.bool false) (.bool false) (.pointer (some ⟨s, 0, none⟩)) (.int .i64 (i 0)) (.pointer (some ⟨A, 0, none⟩)) (.pointer (some ⟨A, 0, none⟩)) (.pointer (some ⟨A, 1, none⟩)) undef undef undef) (by kernel_rfl) ?_
  refine rq_i64 (.tmp 17) A 1 (F 1) (by kernel_rfl) rfl (by kernel_rfl) (fun w hc => (hA.below hc hA.lt).cell 1) ?_
  refine rq_as (b := actR A s i (.agg (rowA 8 i)) (.bool true) (.bool false) (.bool false) (.pointer (some ⟨s, 0, none⟩)) (.int .i64 (i 0)) (.pointer (some ⟨A, 0, none⟩)) (.pointer (some ⟨A, 0, none⟩)) (.pointer (some ⟨A, 1, none⟩)) (.int .i64 (F 1)) undef undef) (by kernel_rfl) ?_
  refine rq_pure (.bool (decide (i 0 ≤ F 1))) (by kernel_rfl) (fun _ => by kernel_rfl) ?_
  refine rq_as (b := actR A s i (.agg (rowA 8 i)) (.bool true) (.bool false) (.bool false) (.pointer (some ⟨s, 0, none⟩)) (.int .i64 (i 0)) (.pointer (some ⟨A, 0, none⟩)) (.pointer (some ⟨A, 0, none⟩)) (.pointer (some ⟨A, 1, none⟩)) (.int .i64 (F 1)) (.bool (decide (i 0 ≤ F 1))) undef) (by kernel_rfl) ?_
  refine rq_pure (.bool (decide (i 0 ≤ F 1))) (by kernel_rfl) (fun _ => by kernel_rfl) ?_
  refine rq_as (b := actR A s i (.agg (rowA 8 i)) (.bool true) (.bool false) (.bool false) (.pointer (some ⟨s, 0, none⟩)) (.int .i64 (i 0)) (.pointer (some ⟨A, 0, none⟩)) (.pointer (some ⟨A, 0, none⟩)) (.pointer (some ⟨A, 1, none⟩)) (.int .i64 (F 1)) (.bool (decide (i 0 ≤ F 1))) (.bool (decide (i 0 ≤ F 1)))) (by kernel_rfl) ?_
  refine rq_nil fun w1 hb => ?_
  have hsX : s ≤ X.heap.size := by have := hK.size; omega
  have hr1 := hr.below hb hr.lt
  have hs1 := hs.below hb hs.lt
  have hA1 := hA.below hb hA.lt
  have hK1 := hK.trans (hb.mono hsX)
  clear hs hr hK hb hA hA0
  unfold actR
  have c0 : w1.cell? ⟨s, 0, none⟩ = some (.int .i64 (i 0)) := hs1.cell 0
  have c1 : w1.cell? ⟨A, 1, none⟩ = some (.int .i64 (F 1)) := hA1.cell 1
  have f1 : w1.frozen? ⟨A, 1, none⟩ = false := hA1.free 1
  have c2 : w1.cell? ⟨A, 2, none⟩ = some (.int .i64 (F 2)) := hA1.cell 2
  have f2 : w1.frozen? ⟨A, 2, none⟩ = false := hA1.free 2
  have nAs : ¬ (A = s) := by omega
  have nsA : ¬ (s = A) := by omega
  go_upto_region 5 with (fail)
  generalize hX2 : World.setCell _ _ _ = X2
  have fA : Blk X2 A (rowA 10 (upd (upd F 1 (i 0)) 2 (i 0))) 45 := by
    have := (hA1.set (i := 1) (.int .i64 (i 0)))
    rw [rowA_set F (by omega)] at this
    have := (this.set (i := 2) (.int .i64 (i 0)))
    rw [rowA_set _ (by omega)] at this
    rw [← hX2]; exact this
  have sX : Blk X2 s (rowA 8 i) 32 := by rw [← hX2]; exact (hs1.other (by omega) _).other (by omega) _
  have rX : Blk X2 (s + 1) (rowA 8 fun _ => 0) 32 := by rw [← hX2]; exact (hr1.other (by omega) _).other (by omega) _
  have tX : Tch [A] w X2 := by rw [← hX2]; exact (((Tch.of [A] (hsz.symm ▸ hK1)).set (.inl (by simp)) _ _).set (.inl (by simp)) _ _)
  clear hX2 c0 c1 c2 f1 f2 hs1 hr1 hA1 hK1
  have c0 : X2.cell? ⟨s, 1, none⟩ = some (.int .i64 (i 1)) := sX.cell 1
  have c3 : X2.cell? ⟨A, 3, none⟩ = some (.int .i64 (F 3)) := fA.cell 3
  have f3 : X2.frozen? ⟨A, 3, none⟩ = false := fA.free 3
  have w3 : IntKind.i64.wrap (F 3 + i 1) = F 3 + i 1 := by
    have h1 := HM.out.1 1 (by omega) (by omega)
    have h2 := HM.out.2 1 (by omega) (by omega)
    rw [show pend F 1 = F 3 from rfl] at h1
    rw [IntKind.wrap_i64]; omega
  have m0 : Rt w A s (upd (upd F 1 (i 0)) 2 (i 0)) i X2 := ⟨fA, sX, rX, tX⟩
  clear fA sX rX tX
  go_cut [7] (fun s7 wx => Hid (Rt w A s (gk F i 0) i wx))
  case first =>
    go_region_law (fail)
    all_goals
      go_wp2_with fail
      go_meet
      refine Lib.hid ?_
      first
        | exact ((m0.set (by omega) 3 (by omega) (F 3 + i 1)).drew).congr (gk0 F i)
        | exact ((m0.drew.set (by omega) 3 (by omega) (F 3 + i 1))).congr (gk0 F i)
        | exact ((m0.set (by omega) 3 (by omega) (F 3 + i 1))).congr (gk0 F i)
  case rest =>
    have m := hcut
    clear hcut m0 w3 c0 c3 f3
    go_wp2_with fail
    go_loopw [7] (fun i' wr => ∃ k : Nat, k ≤ 3 ∧ i' = .int .i64 k ∧ Hid (Rt w A s (gk F i k) i wr)) (fun i' _ => 3 - (intOf i').toNat)
    case atStart => exact ⟨0, by omega, rfl, m⟩
    case round =>
      clear m
      obtain ⟨k, hk3, rfl, m⟩ := hrel
      have hk0 : (0 : Int) ≤ (k : Int) := by omega
      by_cases hlt : k < 3
      · have hltI : (k : Int) < 3 := by omega
        have w4 : IntKind.i64.wrap (F (4 + k) + i (2 + k)) = F (4 + k) + i (2 + k) := by
          have h1 := HM.out.1 (2 + k) (by omega) (by omega)
          have h2 := HM.out.2 (2 + k) (by omega) (by omega)
          rw [show pend F (2 + k) = F (4 + k) by unfold pend; congr 1; omega] at h1
          rw [IntKind.wrap_i64]; omega
        have w7 : IntKind.i64.wrap (F (7 + k) + i (5 + k)) = F (7 + k) + i (5 + k) := by
          have h1 := HM.out.1 (5 + k) (by omega) (by omega)
          have h2 := HM.out.2 (5 + k) (by omega) (by omega)
          rw [show pend F (5 + k) = F (7 + k) by unfold pend; congr 1; omega] at h1
          rw [IntKind.wrap_i64]; omega
        have W4 := Lib.hid w4
        have W7 := Lib.hid w7
        clear w4 w7
        have d0 : wr.cell? ⟨A, 4 + k, none⟩ = some (.int .i64 (F (4 + k))) := by rw [m.out.a.cell, rowA_get _ (by omega), gk_a F i hlt]
        have d1 : wr.cell? ⟨s, 2 + k, none⟩ = some (.int .i64 (i (2 + k))) := by rw [m.out.b.cell, rowA_get _ (by omega)]
        have d2 : wr.frozen? ⟨A, 4 + k, none⟩ = false := m.out.a.free _
        go_upto_region 9 with (fail)
        have w4 := W4.out
        go_cut [] (fun wx => Hid (Rt w A s (upd (gk F i k) (4 + k) (F (4 + k) + i (2 + k))) i wx))
        case first =>
          go_region_law (fail)
          all_goals
            go_wp2_with fail
            go_meet
            refine Lib.hid ?_
            first
              | exact (m.out.set (by omega) (4 + k) (by omega) (F (4 + k) + i (2 + k))).drew
              | exact m.out.drew.set (by omega) (4 + k) (by omega) (F (4 + k) + i (2 + k))
              | exact m.out.set (by omega) (4 + k) (by omega) (F (4 + k) + i (2 + k))
        case rest =>
          clear m d0 d1 d2 w4
          have m := hcut
          clear hcut
          have d0 : wc.cell? ⟨A, 7 + k, none⟩ = some (.int .i64 (F (7 + k))) := by rw [m.out.a.cell, rowA_get _ (by omega), gk_b F i hlt]
          have d1 : wc.cell? ⟨s, 5 + k, none⟩ = some (.int .i64 (i (5 + k))) := by rw [m.out.b.cell, rowA_get _ (by omega)]
          have d2 : wc.frozen? ⟨A, 7 + k, none⟩ = false := m.out.a.free _
          go_upto_region 10 with (fail)
          have w7 := W7.out
          go_region_law (fail)
          all_goals
            clear w7
            go_wp2_with fail
            go_roundw
            case rel =>
              refine ⟨k + 1, by omega, by go_num, Lib.hid ?_⟩
              first
                | exact (m.out.set (by omega) (7 + k) (by omega) (F (7 + k) + i (5 + k))).drew.congr (gk_next F i hlt)
                | exact (m.out.drew.set (by omega) (7 + k) (by omega) (F (7 + k) + i (5 + k))).congr (gk_next F i hlt)
                | exact (m.out.set (by omega) (7 + k) (by omega) (F (7 + k) + i (5 + k))).congr (gk_next F i hlt)
            case measure => simp [intOf]; omega
      · obtain rfl : k = 3 := by omega
        have c3 : wr.cell? ⟨A, 3, none⟩ = some (.int .i64 (whole F i 1)) := m.out.a.cell 3
        have c0 : wr.cell? ⟨A, 0, none⟩ = some (.int .i64 (F 0)) := m.out.a.cell 0
        have tk : took F i = true := by unfold took; rw [hk, decide_eq_true (by omega)]; rfl
        go_upto_region 11 with (fail)
        go_cut [94] (fun s94 wx => s94 = .bool (decide (whole F i 1 < F 0)) ∧ Hid (Rt w A s (gk F i 3) i wx))
        case first =>
          go_region_law (fail)
          all_goals
            go_wp2_with fail
            go_meet
            first | exact ⟨rfl, m⟩ | exact ⟨rfl, Lib.hid m.out.drew⟩
        case rest =>
          clear m c3 c0
          obtain ⟨rfl, m⟩ := hcut
          have r3 := m.out.r
          have A3 := m.out.a
          have t3 := m.out.t
          clear m
          by_cases hlt : whole F i 1 < F 0
          · have td : told F i = false := by unfold told; rw [tk, decide_eq_false (by omega)]; rfl
            have HT := Lib.hid (And.intro tk td)
            clear tk td
            go_wp2_with ((with_reducible refine row_store 32 (.tmp 4) (.tmp 95) ?_ ?_ (s + 1) 8 (fun _ => 0) (fun _ => 0) 32 ?_ ?_ r3 imuSize ?_); rfl; rfl; rfl; rfl)
            refine bodyPost_ret (v := .tuple #[.agg (rowA 8 fun _ => 0), .bool false, .int .i64 0]) (results_rowTT rfl _ _ (s + 1) 8 _ _ _ rfl r3.setRow Try.underlying32 rfl imuSize rfl rfl) rfl ⟨?_, (A3.otherRow (by omega)).congr fun j hj => ?_, t3.row (.inr (by omega)) _⟩
            · rw [HT.out.2, rowA_congr (g := toldR F i) fun j hj => by unfold toldR; rw [HT.out.2]; rfl]
            · unfold nextF
              rw [HT.out.1, HT.out.2, if_pos rfl]
              match j, hj with
              | 0, _ | 1, _ | 2, _ | 3, _ | 4, _ | 5, _ | 6, _ | 7, _ | 8, _ | 9, _ => rfl
          · have td : told F i = true := by unfold told; rw [tk, decide_eq_true (by omega)]; rfl
            have HT := Lib.hid (And.intro tk td)
            clear tk td
            have hI : Ints wc A 2 8 (whole F i) := ⟨fun j hj => by
              rw [A3.cell, rowA_get _ (by omega)]
              match j, hj with
              | 0, _ | 1, _ | 2, _ | 3, _ | 4, _ | 5, _ | 6, _ | 7, _ => rfl⟩
            have hZ : Blk (wc.alloc (.cells #[.int .i64 0, .int .i64 0, .int .i64 0, .int .i64 0, .int .i64 0, .int .i64 0, .int .i64 0, .int .i64 0] 32)) wc.heap.size (rowA 8 fun _ => 0) 32 := Blk.made _ _ _ rfl
            have AZ := (A3.alloc (.cells #[.int .i64 0, .int .i64 0, .int .i64 0, .int .i64 0, .int .i64 0, .int .i64 0, .int .i64 0, .int .i64 0] 32)).otherRow (b := wc.heap.size) (d := rowA 8 (whole F i)) (Nat.ne_of_lt A3.lt)
            have rZ := (r3.alloc (.cells #[.int .i64 0, .int .i64 0, .int .i64 0, .int .i64 0, .int .i64 0, .int .i64 0, .int .i64 0, .int .i64 0] 32)).otherRow (b := wc.heap.size) (d := rowA 8 (whole F i)) (Nat.ne_of_lt r3.lt)
            have tZ := (t3.alloc (.cells #[.int .i64 0, .int .i64 0, .int .i64 0, .int .i64 0, .int .i64 0, .int .i64 0, .int .i64 0, .int .i64 0] 32)).row (b := wc.heap.size) (.inr t3.size) (rowA 8 (whole F i))
            have yZ := hZ.setRow (d := rowA 8 (whole F i))
            have hAy : A ≠ wc.heap.size := Nat.ne_of_lt A3.lt
            have hry : s + 1 ≠ wc.heap.size := Nat.ne_of_lt r3.lt
            clear A3 r3 t3
            go_upto_region 14 with (first
              | ((with_reducible refine mid_load 32 (.tmp 98) ?_ ?_ A 2 8 (whole F i) ?_ hI _ Try.underlying32 ?_ imuSize ?_); rfl; rfl; rfl; rfl)
              | ((with_reducible refine row_store 32 (.tmp 8) (.tmp 99) ?_ ?_ wc.heap.size 8 (whole F i) (fun _ => 0) 32 ?_ ?_ hZ imuSize ?_); rfl; rfl; rfl; rfl))
            clear hZ hI
            generalize World.setRow _ wc.heap.size _ = Y at *
            generalize wc.heap.size = y at *
            have AQ : Blk (putI Y A 2 8 fun _ => 0) A _ 45 := putI_blk AZ (by omega)
            have yQ : Blk (putI Y A 2 8 fun _ => 0) y (rowA 8 (whole F i)) 32 := putI_other yZ (by omega)
            have rQ : Blk (putI Y A 2 8 fun _ => 0) (s + 1) (rowA 8 fun _ => 0) 32 := putI_other rZ (by omega)
            have tQ : Tch [A] w (putI Y A 2 8 fun _ => 0) := tZ.putI (.inl (by simp)) _ _ _
            have AZ' := AZ
            clear AZ yZ rZ tZ
            go_upto_region 15 with ((with_reducible refine mid_store 32 (.tmp 103) (.tmp 101) ?_ ?_ A 2 8 10 (fun _ => 0) (gk F i 3) 45 ?_ ?_ AZ' (by omega) imuSize ?_); rfl; rfl; rfl; rfl)
            clear AZ'
            generalize putI Y A 2 8 (fun _ => 0) = Z at *
            go_wp2_with (first
              | ((with_reducible refine row_load 32 (.tmp 8) ?_ ?_ y 8 (whole F i) 32 ?_ yQ _ Try.underlying32 ?_ imuSize ?_); rfl; rfl; rfl; rfl)
              | ((with_reducible refine row_store 32 (.tmp 4) (.tmp 104) ?_ ?_ (s + 1) 8 (whole F i) (fun _ => 0) 32 ?_ ?_ rQ imuSize ?_); rfl; rfl; rfl; rfl))
            refine bodyPost_ret (v := .tuple #[.agg (rowA 8 (whole F i)), .bool true, .int .i64 0]) (results_rowTT rfl _ _ (s + 1) 8 _ _ _ rfl rQ.setRow Try.underlying32 rfl imuSize rfl rfl) rfl ⟨?_, (AQ.otherRow (by omega)).congr fun j hj => ?_, tQ.row (.inr (by omega)) _⟩
            · rw [HT.out.2, rowA_congr (g := toldR F i) fun j hj => by unfold toldR; rw [HT.out.2]; rfl]
            · show (if 2 ≤ j ∧ j < 2 + 8 then 0 else gk F i 3 j) = nextF F i j
              unfold nextF
              rw [HT.out.1, HT.out.2, if_pos rfl]
              match j, hj with
              | 0, _ | 1, _ | 2, _ | 3, _ | 4, _ | 5, _ | 6, _ | 7, _ | 8, _ | 9, _ => rfl
end Go.Proofs.Ytdndomknjefgkaa.Rg
