/- Proved here: the examples of the first layer answer as they are told, whatever the memory in which the call begins; no condition. -/
import Derived.Test.YtpejfdmammpomaaRows
import Derived.Test.YtpejfdmammpomaaAwake
import Derived.ProofKit
import Derived.OpenShut
namespace Go.Proofs.Ytpejfdmammpomaa.wideKnown
open Go.ChangeShapes Go.WideShapes Go.ChangeAt Go.RowKit

theorem add_nil (w : World) : Calls Try.prog 15 #[.slice none 0 0] w fun e w' => e = .returned (.tuple #[V2 0 0, .bool true]) ∧ Below w.heap.size w w' := by
  go_enter Try.func15, Try.ntmps15
  go_wp2
  go_loopw [12] (fun i wr => i = .int .i64 0 ∧ wr = (w.alloc (.cells #[.int .i64 0, .int .u64 0] 27)).alloc (.cells #[.int .i64 0, .int .u64 0] 27)) (fun _ _ => 0)
  case atStart => exact ⟨rfl, rfl⟩
  case round =>
    obtain ⟨rfl, rfl⟩ := hrel
    go_wp2
    exact bodyPost_ret (v := .tuple #[V2 0 0, .bool true]) (by simp [results, Try.results15, go_sem]) rfl ⟨rfl, ((Below.refl _ _).alloc (Nat.le_refl _) _).alloc (by simp) _⟩
theorem root6 (w : World) : Calls Try.prog 10 #[V2 0 6] w fun e w' => e = .returned (.tuple #[.int .i64 2, .bool true]) ∧ Below w.heap.size w w' := by
  rw [← V2_of 6 0 6 (by decide) (by decide)]
  exact (wroot_any 6 w (by decide) (by decide)).mono fun e w' ⟨he, hb⟩ => ⟨he.trans (tupleb (by decide) rfl), hb⟩
theorem round127 (w : World) : Calls Try.prog 12 #[V2 0 5, .int .i64 127] w fun e w' => e = .returned (.tuple #[.int .i64 0, .bool false]) ∧ Below w.heap.size w w' := by
  rw [← V2_of 5 0 5 (by decide) (by decide)]
  exact round_out 5 127 w (.inr (by decide))
theorem div0 (w : World) : Calls Try.prog 13 #[V2 0 5, .int .i64 0] w fun e w' => e = .returned (.tuple #[.int .i64 0, .bool false]) ∧ Below w.heap.size w w' := by
  rw [← V2_of 5 0 5 (by decide) (by decide)]
  exact wdiv_zero 5 w ⟨by decide, by decide⟩
theorem negmin (w : World) : Calls Try.prog 14 #[V2 (-9223372036854775808) 0] w fun e w' => e = .returned (.tuple #[V2 0 0, .bool false]) ∧ Below w.heap.size w w' := by
  rw [← V2_of (-170141183460469231731687303715884105728) (-9223372036854775808) 0 (by decide) (by decide)]
  exact wneg_no _ w (by decide) (by decide)
theorem rootm (w : World) : Calls Try.prog 10 #[V2 (-1) 18446744073709551615] w fun e w' => e = .returned (.tuple #[.int .i64 0, .bool false]) ∧ Below w.heap.size w w' := by
  rw [← V2_of (-1) (-1) 18446744073709551615 (by decide) (by decide)]
  exact wroot_neg (-1) w (by decide)
set_option maxHeartbeats 4000000 in
theorem walk (w : World) :
    Calls Try.prog 3 #[] w fun e w' => e = .returned (.bool true) ∧ Below w.heap.size w w' := by
  go_enter Try.func3, Try.ntmps3
  go_wp2_with fail
  refine (awake_any _).mono ?_
  rintro e w1 ⟨rfl, hb⟩
  have B1 := hb
  clear hb
  go_wp2_with fail
  refine (of_lit 6 0 6 _ (by decide) (by decide) (by decide) (by decide)).mono ?_
  rintro e w2 ⟨rfl, hb⟩
  have B2 := B1.trans (hb.mono B1.size)
  clear hb B1
  go_wp2_with fail
  refine (root6 _).mono ?_
  rintro e w3 ⟨rfl, hb⟩
  have B3 := B2.trans (hb.mono B2.size)
  clear hb B2
  go_wp2_with fail
  refine (of_lit 5 0 5 _ (by decide) (by decide) (by decide) (by decide)).mono ?_
  rintro e w4 ⟨rfl, hb⟩
  have B4 := B3.trans (hb.mono B3.size)
  clear hb B3
  go_wp2_with fail
  refine (round127 _).mono ?_
  rintro e w5 ⟨rfl, hb⟩
  have B5 := B4.trans (hb.mono B4.size)
  clear hb B4
  go_wp2_with fail
  refine (of_lit 5 0 5 _ (by decide) (by decide) (by decide) (by decide)).mono ?_
  rintro e w6 ⟨rfl, hb⟩
  have B6 := B5.trans (hb.mono B5.size)
  clear hb B5
  go_wp2_with fail
  refine (div0 _).mono ?_
  rintro e w7 ⟨rfl, hb⟩
  have B7 := B6.trans (hb.mono B6.size)
  clear hb B6
  go_wp2_with fail
  refine (negmin _).mono ?_
  rintro e w8 ⟨rfl, hb⟩
  have B8 := B7.trans (hb.mono B7.size)
  clear hb B7
  go_wp2_with fail
  generalize hX : World.alloc w8 _ = X
  have BX : Below w.heap.size w X := by subst hX; exact B8.alloc B8.size _
  clear hX B8
  refine (add_nil _).mono ?_
  rintro e w9 ⟨rfl, hb⟩
  have B9 := BX.trans (hb.mono BX.size)
  clear hb BX
  go_wp2_with fail
  generalize hY : World.alloc w9 _ = Y
  have y0 : Y.cell? ⟨w9.heap.size, 0, none⟩ = some (.int .i64 0) := by subst hY; simp
  have y1 : Y.cell? ⟨w9.heap.size, 1, none⟩ = some (.int .u64 0) := by subst hY; simp
  have yl : w9.heap.size < Y.heap.size := by subst hY; simp
  have BY : Below w.heap.size w Y := by subst hY; exact B9.alloc B9.size _
  clear hY B9
  refine (of_lit (-1) (-1) 18446744073709551615 _ (by decide) (by decide) (by decide) (by decide)).mono ?_
  rintro e w10 ⟨rfl, hb⟩
  have B10 := BY.trans (hb.mono BY.size)
  have u0 := (hb.cell (p := ⟨w9.heap.size, 0, none⟩) yl).trans y0
  have u1 := (hb.cell (p := ⟨w9.heap.size, 1, none⟩) yl).trans y1
  have ul := Nat.lt_of_lt_of_le yl hb.size
  clear hb y0 y1 yl BY
  go_wp2_with fail
  refine (rootm _).mono ?_
  rintro e w11 ⟨rfl, hb⟩
  have B11 := B10.trans (hb.mono B10.size)
  have v0 := (hb.cell (p := ⟨w9.heap.size, 0, none⟩) ul).trans u0
  have v1 := (hb.cell (p := ⟨w9.heap.size, 1, none⟩) ul).trans u1
  clear hb u0 u1 ul B10
  go_wp2_with fail
  go_ret
  exact ⟨rfl, B11⟩

theorem own : ownKnob Try.prog.godebug = none := by kernel_rfl
set_option maxRecDepth 100000 in
theorem lifted (os : Os) (started : os.Started) (H : Type) (enc : TypeId × Value → H) :
    ReturnsInHanded {} Try.checked os 3 .any (Rows.wideKnownSpec.pre6 enc Try.prog Try.f3 Rows.wideKnownRow.domain false) (Rows.wideKnownSpec.post enc Try.prog Try.f3 false true false false) := by
  refine returnsInHanded_of_change (C := Try.checked) own started (by kernel_rfl) Try.func3
    (ChangeSpec.witness6 (enc := enc) (C := Try.checked) false ⟨#[], #[], []⟩ 8 (by kernel_rfl) (by kernel_rfl) (by kernel_rfl) (by kernel_rfl)) ?_
  intro W base args ds gs before hval0 hW hcnd _
  have hW' := hW
  obtain ⟨p, q, hA0, hV, rfl, hfz, hnd⟩ := hW
  have hA : DataW.TrodAll enc Try.prog W 0 (fun _ => true) true Try.f3.params.toList args.toList ds p := hA0
  rw [Try.params3] at hA
  obtain ⟨rfl, rfl, rfl⟩ := trodAll_none hA
  obtain ⟨rfl, rfl⟩ := trodVars_none hV
  clear hA0 hval0
  simp only [List.append_nil] at hW'
  refine (walk W).mono fun e W' ⟨he, hg⟩ => ?_
  subst he
  exact ⟨_, rfl, [], [], [], [], [], [], hW', (trodAll_cons_mk (shut_bool Try.underlying4 _) trodAll_mk0), rfl, rfl, hg.frame _, fun h => by cases h⟩

theorem over : Rows.wideKnownRow.holds Try.pinned (OpenSpec.ofChange Rows.wideKnownSpec) :=
  OpenClaim.holds_of_wide 3 Try.f3 rfl rfl rfl rfl rfl rfl rfl ⟨rfl, rfl, rfl, rfl, rfl⟩ rfl rfl rfl rfl rfl (by kernel_rfl) Try.func3 (by kernel_rfl)
    (of_decide_eq_true (by kernel_rfl)) (by unfold Func.isWrapper; first | (rw [if_pos (by decide +kernel)]; kernel_rfl) | (rw [if_neg (by decide +kernel)]; exact ⟨rfl, rfl⟩))
    (fun os started H enc _ => lifted os started H enc)
theorem proved : Rows.WideKnownSaid := over
#print axioms proved
end Go.Proofs.Ytpejfdmammpomaa.wideKnown
