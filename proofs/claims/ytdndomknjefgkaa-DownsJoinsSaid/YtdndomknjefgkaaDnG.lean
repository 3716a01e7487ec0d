/- A sample is put in: one that is refused. -/
import Derived.Test.YtdndomknjefgkaaDnR
namespace Go.Proofs.Ytdndomknjefgkaa.Rg
open Go.RowKit
theorem Tch.flag {p o : Nat} {h : Bool} {w w' : World} (k : FlW p o h w w') : Tch [p] w w' :=
  ⟨k.out.os, k.out.tape, k.out.output, k.size, fun b hb hn => k.block hb (by simpa using hn)⟩
theorem goodr (f : Nat → Int) (b : Bool) (w : World) (hb : okI f = b) : Calls Try.prog 12 #[.agg (rowA 8 f)] w fun e w' => e = .returned (.bool b) ∧ Below w.heap.size w w' := by
  subst hb; exact good_any f w
theorem rq_nil {P : Program} {ops : Array Oper} {C : World → Prop} {Q : Act → Prop} {a : Act} (h : Q a) : Rq P ops C Q [] a := ⟨wpQuiet_nil h⟩
theorem results_rowTT {P : Program} {fn : Func} {p u v : Tmp} {ty : TypeId} (h : fn.results = #[.cell p ty, .tmp u, .tmp v]) (tmps : Array Value) (w : World) (g n : Nat) (f : Nat → Int) (t : TypeId) (d : TypeDesc)
    (hp : tmps.getD p undef = .pointer (some ⟨g, 0, none⟩)) (hg : Blk w g (rowA n f) t) (hu : P.underlying ty = some d) (hd : (match d with | .struct _ | .array _ _ => true | _ => false) = true) (hi : (P.info? ty).map (·.size) = some n) {x y : Value} (hx : tmps.getD u undef = x) (hy : tmps.getD v undef = y) :
    (results fn tmps).run P w = .ok (.tuple #[.agg (rowA n f), x, y]) w := by
  subst hx hy
  have hp' : tmps[p]?.getD undef = .pointer (some ⟨g, 0, none⟩) := by simpa using hp
  simp [results, h, hp', asAddr, run_loadVar_row w g t ty _ (0, 0) d hg hu hd (by rw [rowA_size]; exact hi)]
def actP (A p o s : Nat) (i : Nat → Int) (a7 a8 : Value) (a10 a11 a12 a13 a14 a15 a16 a17 a18 a19 a20 a21 a22 a23 a24 a25 a26 a27 a28 a29 a30 a31 a32 a33 a34 a35 a36 a37 a38 a39 a40 a41 a42 a43 a44 a45 a46 a47 a48 a49 a50 a51 a52 a53 a54 a55 a56 a57 a58 : Value) : Act := ⟨⟨.pointer (some ⟨A, 0, none⟩) :: .pointer (some ⟨p, o, none⟩) :: .agg (rowA 8 i) :: undef :: undef :: .pointer (some ⟨s, 0, none⟩) :: .pointer (some ⟨s + 1, 0, none⟩) :: a7 :: a8 :: undef :: a10 :: a11 :: a12 :: a13 :: a14 :: a15 :: a16 :: a17 :: a18 :: a19 :: a20 :: a21 :: a22 :: a23 :: a24 :: a25 :: a26 :: a27 :: a28 :: a29 :: a30 :: a31 :: a32 :: a33 :: a34 :: a35 :: a36 :: a37 :: a38 :: a39 :: a40 :: a41 :: a42 :: a43 :: a44 :: a45 :: a46 :: a47 :: a48 :: a49 :: a50 :: a51 :: a52 :: a53 :: a54 :: a55 :: a56 :: a57 :: a58 :: []⟩, []⟩
set_option maxRecDepth 100000 in
set_option maxHeartbeats 16000000 in
theorem put_bad0 (p o A : Nat) (i : Nat → Int) (w : World) (hk : okI i = false) :
    Calls Try.prog 10 #[.pointer (some ⟨A, 0, none⟩), .pointer (some ⟨p, o, none⟩), .agg (rowA 8 i)] w fun e w' => e = .returned (.tuple #[.agg (rowA 8 fun _ => 0), .bool false, .int .i64 1]) ∧ Below w.heap.size w w' := by
  go_enter Try.func10, Try.ntmps10
  go_upto_region 1 with (fail)
  have hs : Blk ((w.alloc (.cells (rowA 8 i) 32)).alloc (.cells (rowA 8 fun _ => 0) 32)) w.heap.size (rowA 8 i) 32 := (Blk.made _ _ _ rfl).alloc _
  have hr : Blk ((w.alloc (.cells (rowA 8 i) 32)).alloc (.cells (rowA 8 fun _ => 0) 32)) (w.heap.size + 1) (rowA 8 fun _ => 0) 32 := Blk.made _ _ _ (by simp)
  have hK : Below w.heap.size w ((w.alloc (.cells (rowA 8 i) 32)).alloc (.cells (rowA 8 fun _ => 0) 32)) := ((Below.refl _ _).alloc (Nat.le_refl _) _).alloc (by simp) _
  change Code.wp _ _ _ _ ((w.alloc (.cells (rowA 8 i) 32)).alloc (.cells (rowA 8 fun _ => 0) 32))
  generalize (w.alloc (.cells (rowA 8 i) 32)).alloc (.cells (rowA 8 fun _ => 0) 32) = X at *
  generalize hsz : w.heap.size = s at *
  refine rg_in (Below X.heap.size X) (by kernel_rfl) (by kernel_rfl) (Below.refl _ _).drew ?_
  refine rq_start ?_
  refine rq_as (b := actP A p o s i (.bool false) (.int .i64 0) undef undef undef undef undef undef undef undef undef undef undef undef undef undef undef undef undef undef undef undef undef undef undef undef undef undef undef undef undef undef undef undef undef undef undef undef undef undef undef undef undef undef undef undef undef undef undef undef undef) (by kernel_rfl) ?_
  refine rq_row 32 (.tmp 5) s 8 i 32 _ (by kernel_rfl) rfl (by kernel_rfl) (fun w hc => hs.below hc hs.lt) Try.underlying32 rfl imuSize ?_
  refine rq_as (b := actP A p o s i (.bool false) (.int .i64 0) (.agg (rowA 8 i)) undef undef undef undef undef undef undef undef undef undef undef undef undef undef undef undef undef undef undef undef undef undef undef undef undef undef undef undef undef undef undef undef undef undef undef undef undef undef undef undef undef undef undef undef undef undef undef undef) (by kernel_rfl) ?_
  refine rq_call (.bool false) 12 #[.agg (rowA 8 i)] (by kernel_rfl) (fun _ => by kernel_rfl) (fun w hc => (goodr i false w hk).mono fun e w' ⟨he, hb⟩ => ⟨he, hc.trans (hb.mono hc.size)⟩) ?_
  refine rq_as (b := actP A p o s i (.bool false) (.int .i64 0) (.agg (rowA 8 i)) (.bool false) undef undef undef undef undef undef undef undef undef undef undef undef undef undef undef undef undef undef undef undef undef undef undef undef undef undef undef undef undef undef undef undef undef undef undef undef undef undef undef undef undef undef undef undef undef undef undef) (by kernel_rfl) ?_
  refine rq_pure (.bool true) (by kernel_rfl) (fun _ => by kernel_rfl) ?_
  refine rq_as (b := actP A p o s i (.bool false) (.int .i64 0) (.agg (rowA 8 i)) (.bool false) (.bool true) undef undef undef undef undef undef undef undef undef undef undef undef undef undef undef undef undef undef undef undef undef undef undef undef undef undef undef undef undef undef undef undef undef undef undef undef undef undef undef undef undef undef undef undef undef undef) (by kernel_rfl) ?_
  refine rq_pure (.bool true) (by kernel_rfl) (fun _ => by kernel_rfl) ?_
  refine rq_as (b := actP A p o s i (.bool false) (.int .i64 0) (.agg (rowA 8 i)) (.bool false) (.bool true) (.bool true) undef undef undef undef undef undef undef undef undef undef undef undef undef undef undef undef undef undef undef undef undef undef undef undef undef undef undef undef undef undef undef undef undef undef undef undef undef undef undef undef undef undef undef undef undef) (by kernel_rfl) ?_
  refine rq_skip (by kernel_rfl) ?_
  refine rq_as (b := actP A p o s i (.bool false) (.int .i64 0) (.agg (rowA 8 i)) (.bool false) (.bool true) (.bool true) (undef) undef undef undef undef undef undef undef undef undef undef undef undef undef undef undef undef undef undef undef undef undef undef undef undef undef undef undef undef undef undef undef undef undef undef undef undef undef undef undef undef undef undef undef undef) (by kernel_rfl) ?_
  refine rq_skip (by kernel_rfl) ?_
  refine rq_as (b := actP A p o s i (.bool false) (.int .i64 0) (.agg (rowA 8 i)) (.bool false) (.bool true) (.bool true) (undef) (undef) undef undef undef undef undef undef undef undef undef undef undef undef undef undef undef undef undef undef undef undef undef undef undef undef undef undef undef undef undef undef undef undef undef undef undef undef undef undef undef undef undef undef undef) (by kernel_rfl) ?_
  refine rq_skip (by kernel_rfl) ?_
  refine rq_as (b := actP A p o s i (.bool false) (.int .i64 0) (.agg (rowA 8 i)) (.bool false) (.bool true) (.bool true) (undef) (undef) (undef) undef undef undef undef undef undef undef undef undef undef undef undef undef undef undef undef undef undef undef undef undef undef undef undef undef undef undef undef undef undef undef undef undef undef undef undef undef undef undef undef undef undef) (by kernel_rfl) ?_
  refine rq_skip (by kernel_rfl) ?_
  refine rq_as (b := actP A p o s i (.bool false) (.int .i64 0) (.agg (rowA 8 i)) (.bool false) (.bool true) (.bool true) (undef) (undef) (undef) (undef) undef undef undef undef undef undef undef undef undef undef undef undef undef undef undef undef undef undef undef undef undef undef undef undef undef undef undef undef undef undef undef undef undef undef undef undef undef undef undef undef undef) (by kernel_rfl) ?_
  refine rq_skip (by kernel_rfl) ?_
  refine rq_as (b := actP A p o s i (.bool false) (.int .i64 0) (.agg (rowA 8 i)) (.bool false) (.bool true) (.bool true) (undef) (undef) (undef) (undef) (undef) undef undef undef undef undef undef undef undef undef undef undef undef undef undef undef undef undef undef undef undef undef undef undef undef undef undef undef undef undef undef undef undef undef undef undef undef undef undef undef undef) (by kernel_rfl) ?_
  refine rq_skip (by kernel_rfl) ?_
  refine rq_as (b := actP A p o s i (.bool false) (.int .i64 0) (.agg (rowA 8 i)) (.bool false) (.bool true) (.bool true) (undef) (undef) (undef) (undef) (undef) (undef) undef undef undef undef undef undef undef undef undef undef undef undef undef undef undef undef undef undef undef undef undef undef undef undef undef undef undef undef undef undef undef undef undef undef undef undef undef undef undef) (by kernel_rfl) ?_
  refine rq_skip (by kernel_rfl) ?_
  refine rq_as (b := actP A p o s i (.bool false) (.int .i64 0) (.agg (rowA 8 i)) (.bool false) (.bool true) (.bool true) (undef) (undef) (undef) (undef) (undef) (undef) (undef) undef undef undef undef undef undef undef undef undef undef undef undef undef undef undef undef undef undef undef undef undef undef undef undef undef undef undef undef undef undef undef undef undef undef undef undef undef undef) (by kernel_rfl) ?_
  refine rq_pure (.bool true) (by kernel_rfl) (fun _ => by kernel_rfl) ?_
  refine rq_as (b := actP A p o s i (.bool false) (.int .i64 0) (.agg (rowA 8 i)) (.bool false) (.bool true) (.bool true) (undef) (undef) (undef) (undef) (undef) (undef) (undef) (.bool true) undef undef undef undef undef undef undef undef undef undef undef undef undef undef undef undef undef undef undef undef undef undef undef undef undef undef undef undef undef undef undef undef undef undef undef undef undef) (by kernel_rfl) ?_
  refine rq_nil fun w1 hb => ?_
  have hr1 := hr.below hb hr.lt
  have hsX : s ≤ X.heap.size := by have := hK.size; omega
  have hK1 := hK.trans (hb.mono hsX)
  clear hs hr hK hb
  unfold actP
  go_wp2_with ((with_reducible refine row_store 32 (.tmp 6) (.tmp 22) ?_ ?_ (s + 1) 8 (fun _ => 0) (fun _ => 0) 32 ?_ ?_ hr1 imuSize ?_); rfl; rfl; rfl; rfl)
  refine bodyPost_ret (v := .tuple #[.agg (rowA 8 fun _ => 0), .bool false, .int .i64 1]) (results_rowTT rfl _ _ (s + 1) 8 _ _ _ rfl hr1.setRow Try.underlying32 rfl imuSize rfl rfl) rfl ⟨rfl, ?_⟩
  rw [hsz]
  exact below_setRow hK1 (Nat.le_succ s) _
set_option maxRecDepth 100000 in
set_option maxHeartbeats 16000000 in
theorem put_bad1 (p o A : Nat) (F i : Nat → Int) (w : World) (hA0 : Blk w A (rowA 10 F) 77) (hk : okI i = true) (hle : i 0 ≤ F 1) :
    Calls Try.prog 10 #[.pointer (some ⟨A, 0, none⟩), .pointer (some ⟨p, o, none⟩), .agg (rowA 8 i)] w fun e w' => e = .returned (.tuple #[.agg (rowA 8 fun _ => 0), .bool false, .int .i64 1]) ∧ Below w.heap.size w w' := by
  go_enter Try.func10, Try.ntmps10
  go_upto_region 1 with (fail)
  have hs : Blk ((w.alloc (.cells (rowA 8 i) 32)).alloc (.cells (rowA 8 fun _ => 0) 32)) w.heap.size (rowA 8 i) 32 := (Blk.made _ _ _ rfl).alloc _
  have hr : Blk ((w.alloc (.cells (rowA 8 i) 32)).alloc (.cells (rowA 8 fun _ => 0) 32)) (w.heap.size + 1) (rowA 8 fun _ => 0) 32 := Blk.made _ _ _ (by simp)
  have hK : Below w.heap.size w ((w.alloc (.cells (rowA 8 i) 32)).alloc (.cells (rowA 8 fun _ => 0) 32)) := ((Below.refl _ _).alloc (Nat.le_refl _) _).alloc (by simp) _
  have hA : Blk ((w.alloc (.cells (rowA 8 i) 32)).alloc (.cells (rowA 8 fun _ => 0) 32)) A (rowA 10 F) 77 := (hA0.alloc _).alloc _
  change Code.wp _ _ _ _ ((w.alloc (.cells (rowA 8 i) 32)).alloc (.cells (rowA 8 fun _ => 0) 32))
  generalize (w.alloc (.cells (rowA 8 i) 32)).alloc (.cells (rowA 8 fun _ => 0) 32) = X at *
  generalize hsz : w.heap.size = s at *
  refine rg_in (Below X.heap.size X) (by kernel_rfl) (by kernel_rfl) (Below.refl _ _).drew ?_
  refine rq_start ?_
  refine rq_as (b := actP A p o s i (.bool false) (.int .i64 0) undef undef undef undef undef undef undef undef undef undef undef undef undef undef undef undef undef undef undef undef undef undef undef undef undef undef undef undef undef undef undef undef undef undef undef undef undef undef undef undef undef undef undef undef undef undef undef undef undef) (by kernel_rfl) ?_
  refine rq_row 32 (.tmp 5) s 8 i 32 _ (by kernel_rfl) rfl (by kernel_rfl) (fun w hc => hs.below hc hs.lt) Try.underlying32 rfl imuSize ?_
  refine rq_as (b := actP A p o s i (.bool false) (.int .i64 0) (.agg (rowA 8 i)) undef undef undef undef undef undef undef undef undef undef undef undef undef undef undef undef undef undef undef undef undef undef undef undef undef undef undef undef undef undef undef undef undef undef undef undef undef undef undef undef undef undef undef undef undef undef undef undef) (by kernel_rfl) ?_
  refine rq_call (.bool true) 12 #[.agg (rowA 8 i)] (by kernel_rfl) (fun _ => by kernel_rfl) (fun w hc => (goodr i true w hk).mono fun e w' ⟨he, hb⟩ => ⟨he, hc.trans (hb.mono hc.size)⟩) ?_
  refine rq_as (b := actP A p o s i (.bool false) (.int .i64 0) (.agg (rowA 8 i)) (.bool true) undef undef undef undef undef undef undef undef undef undef undef undef undef undef undef undef undef undef undef undef undef undef undef undef undef undef undef undef undef undef undef undef undef undef undef undef undef undef undef undef undef undef undef undef undef undef undef) (by kernel_rfl) ?_
  refine rq_pure (.bool false) (by kernel_rfl) (fun _ => by kernel_rfl) ?_
  refine rq_as (b := actP A p o s i (.bool false) (.int .i64 0) (.agg (rowA 8 i)) (.bool true) (.bool false) undef undef undef undef undef undef undef undef undef undef undef undef undef undef undef undef undef undef undef undef undef undef undef undef undef undef undef undef undef undef undef undef undef undef undef undef undef undef undef undef undef undef undef undef undef undef) (by kernel_rfl) ?_
  refine rq_pure (.bool false) (by kernel_rfl) (fun _ => by kernel_rfl) ?_
  refine rq_as (b := actP A p o s i (.bool false) (.int .i64 0) (.agg (rowA 8 i)) (.bool true) (.bool false) (.bool false) undef undef undef undef undef undef undef undef undef undef undef undef undef undef undef undef undef undef undef undef undef undef undef undef undef undef undef undef undef undef undef undef undef undef undef undef undef undef undef undef undef undef undef undef undef) (by kernel_rfl) ?_
  refine rq_pure (.pointer (some ⟨s, 0, none⟩)) (by kernel_rfl) (fun _ => by kernel_rfl) ?_
  refine rq_as (b := actP A p o s i (.bool false) (.int .i64 0) (.agg (rowA 8 i)) (.bool true) (.bool false) (.bool false) (.pointer (some ⟨s, 0, none⟩)) undef undef undef undef undef undef undef undef undef undef undef undef undef undef undef undef undef undef undef undef undef undef undef undef undef undef undef undef undef undef undef undef undef undef undef undef undef undef undef undef undef undef undef undef) (by kernel_rfl) ?_
  refine rq_i64 (.tmp 14) s 0 (i 0) (by kernel_rfl) rfl (by kernel_rfl) (fun w hc => (hs.below hc hs.lt).cell 0) ?_
  refine rq_as (b := actP A p o s i (.bool false) (.int .i64 0) (.agg (rowA 8 i)) (.bool true) (.bool false) (.bool false) (.pointer (some ⟨s, 0, none⟩)) (.int .i64 (i 0)) undef undef undef undef undef undef undef undef undef undef undef undef undef undef undef undef undef undef undef undef undef undef undef undef undef undef undef undef undef undef undef undef undef undef undef undef undef undef undef undef undef undef undef) (by kernel_rfl) ?_
  refine rq_pure (.pointer (some ⟨A, 0, none⟩)) (by kernel_rfl) (fun _ => by kernel_rfl) ?_
  refine rq_as (b := actP A p o s i (.bool false) (.int .i64 0) (.agg (rowA 8 i)) (.bool true) (.bool false) (.bool false) (.pointer (some ⟨s, 0, none⟩)) (.int .i64 (i 0)) (.pointer (some ⟨A, 0, none⟩)) undef undef undef undef undef undef undef undef undef undef undef undef undef undef undef undef undef undef undef undef undef undef undef undef undef undef undef undef undef undef undef undef undef undef undef undef undef undef undef undef undef undef) (by kernel_rfl) ?_
  refine rq_pure (.pointer (some ⟨A, 0, none⟩)) (by kernel_rfl) (fun _ => by kernel_rfl) ?_
  refine rq_as (b := actP A p o s i (.bool false) (.int .i64 0) (.agg (rowA 8 i)) (.bool true) (.bool false) (.bool false) (.pointer (some ⟨s, 0, none⟩)) (.int .i64 (i 0)) (.pointer (some ⟨A, 0, none⟩)) (.pointer (some ⟨A, 0, none⟩)) undef undef undef undef undef undef undef undef undef undef undef undef undef undef undef undef undef undef undef undef undef undef undef undef undef undef undef undef undef undef undef undef undef undef undef undef undef undef undef undef undef) (by kernel_rfl) ?_
  refine rq_pure (.pointer (some ⟨A, 1, none⟩)) (by kernel_rfl) (fun _ => by kernel_rfl) ?_
  refine rq_as (b := actP A p o s i (.bool false) (.int .i64 0) (.agg (rowA 8 i)) (.bool true) (.bool false) (.bool false) (.pointer (some ⟨s, 0, none⟩)) (.int .i64 (i 0)) (.pointer (some ⟨A, 0, none⟩)) (.pointer (some ⟨A, 0, none⟩)) (.pointer (some ⟨A, 1, none⟩)) undef undef undef undef undef undef undef undef undef undef undef undef undef undef undef undef undef undef undef undef undef undef undef undef undef undef undef undef undef undef undef undef undef undef undef undef undef undef undef undef) (by kernel_rfl) ?_
  refine rq_i64 (.tmp 18) A 1 (F 1) (by kernel_rfl) rfl (by kernel_rfl) (fun w hc => (hA.below hc hA.lt).cell 1) ?_
  refine rq_as (b := actP A p o s i (.bool false) (.int .i64 0) (.agg (rowA 8 i)) (.bool true) (.bool false) (.bool false) (.pointer (some ⟨s, 0, none⟩)) (.int .i64 (i 0)) (.pointer (some ⟨A, 0, none⟩)) (.pointer (some ⟨A, 0, none⟩)) (.pointer (some ⟨A, 1, none⟩)) (.int .i64 (F 1)) undef undef undef undef undef undef undef undef undef undef undef undef undef undef undef undef undef undef undef undef undef undef undef undef undef undef undef undef undef undef undef undef undef undef undef undef undef undef undef) (by kernel_rfl) ?_
  refine rq_pure (.bool (decide (i 0 ≤ F 1))) (by kernel_rfl) (fun _ => by kernel_rfl) ?_
  refine rq_as (b := actP A p o s i (.bool false) (.int .i64 0) (.agg (rowA 8 i)) (.bool true) (.bool false) (.bool false) (.pointer (some ⟨s, 0, none⟩)) (.int .i64 (i 0)) (.pointer (some ⟨A, 0, none⟩)) (.pointer (some ⟨A, 0, none⟩)) (.pointer (some ⟨A, 1, none⟩)) (.int .i64 (F 1)) (.bool (decide (i 0 ≤ F 1))) undef undef undef undef undef undef undef undef undef undef undef undef undef undef undef undef undef undef undef undef undef undef undef undef undef undef undef undef undef undef undef undef undef undef undef undef undef undef) (by kernel_rfl) ?_
  refine rq_pure (.bool (decide (i 0 ≤ F 1))) (by kernel_rfl) (fun _ => by kernel_rfl) ?_
  refine rq_as (b := actP A p o s i (.bool false) (.int .i64 0) (.agg (rowA 8 i)) (.bool true) (.bool false) (.bool false) (.pointer (some ⟨s, 0, none⟩)) (.int .i64 (i 0)) (.pointer (some ⟨A, 0, none⟩)) (.pointer (some ⟨A, 0, none⟩)) (.pointer (some ⟨A, 1, none⟩)) (.int .i64 (F 1)) (.bool (decide (i 0 ≤ F 1))) (.bool (decide (i 0 ≤ F 1))) undef undef undef undef undef undef undef undef undef undef undef undef undef undef undef undef undef undef undef undef undef undef undef undef undef undef undef undef undef undef undef undef undef undef undef undef undef) (by kernel_rfl) ?_
  refine rq_nil fun w1 hb => ?_
  have hr1 := hr.below hb hr.lt
  have hsX : s ≤ X.heap.size := by have := hK.size; omega
  have hK1 := hK.trans (hb.mono hsX)
  clear hs hr hK hb hA hA0
  unfold actP
  go_wp2_with ((with_reducible refine row_store 32 (.tmp 6) (.tmp 22) ?_ ?_ (s + 1) 8 (fun _ => 0) (fun _ => 0) 32 ?_ ?_ hr1 imuSize ?_); rfl; rfl; rfl; rfl)
  refine bodyPost_ret (v := .tuple #[.agg (rowA 8 fun _ => 0), .bool false, .int .i64 1]) (results_rowTT rfl _ _ (s + 1) 8 _ _ _ rfl hr1.setRow Try.underlying32 rfl imuSize rfl rfl) rfl ⟨rfl, ?_⟩
  rw [hsz]
  exact below_setRow hK1 (Nat.le_succ s) _
end Go.Proofs.Ytdndomknjefgkaa.Rg
