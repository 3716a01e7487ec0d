/- Package quat: a quaternion made one of length one. -/
import Derived.Test.YtdleeeahonfnkaaStC
import Derived.Test.YtdleeeahonfnkaaRowE
namespace Go.Proofs.Ytdleeeahonfnkaa
open Go.RowKit

def oneF : Nat → Int := fun k => if k = 0 then 1073741824 else 0
def zeroB (f : Nat → Int) : Bool := eqB 4 f fun _ => 0
def stepU (f : Nat → Int) : Nat → Int := byF f (lenF f)
def stepO (f : Nat → Int) : Bool := lenO f || byO f (lenF f) 4
theorem ustep_any (p o : Nat) (f : Nat → Int) (h : Bool) (w : World) (fl : Fl p o h w) :
    Calls Try.prog 158 #[.pointer (some ⟨p, o, none⟩), .agg (rowA 4 f)] w fun e w' => e = .returned (.agg (rowA 4 (stepU f))) ∧ FlW p o (h || stepO f) w w' := by
  refine (uby_any p o f h w fl).mono ?_
  rintro e w' ⟨rfl, k⟩
  exact ⟨rfl, flag_is (by simp [stepO, Bool.or_assoc]) k⟩
/-- A quaternion of length one; what clamps. -/
def unitF (f : Nat → Int) : Nat → Int := bif zeroB (satF f) then oneF else stepU (stepU (satF f))
def unitH (f : Nat → Int) : Bool := satO f 4 || (bif zeroB (satF f) then false else stepO (satF f) || stepO (stepU (satF f)))
theorem quatFlat : SX.flatOk Try.prog 85 = some (List.replicate 4 true) := by kernel_rfl
theorem one_row : (#[.int .i64 1073741824, .int .i64 0, .int .i64 0, .int .i64 0] : Array Value) = rowA 4 oneF := by kernel_rfl
set_option maxHeartbeats 4000000 in
theorem uone_is (w : World) : Calls Try.prog 127 #[] w fun e w' => e = .returned (.agg (rowA 4 oneF)) ∧ Below w.heap.size w w' := by
  go_enter Try.func127, Try.ntmps127
  go_upto_region 1 with (fail)
  rw [zero4]
  generalize hW : World.alloc w _ = W
  have hb : Below w.heap.size w W := by subst hW; exact (Below.refl _ _).alloc (Nat.le_refl _) _
  have hB : Blk W w.heap.size (rowA 4 fun _ => 0) 85 := by subst hW; exact Blk.made _ _ _ rfl
  clear hW
  go_wp2_with ((with_reducible refine row_store 85 (.tmp 0) (.tmp 1) ?_ ?_ w.heap.size 4 oneF (fun _ => 0) 85 ?_ ?_ hB quatSize ?_); rfl; rfl; rfl; (exact congrArg Value.agg one_row))
  exact bodyPost_ret (v := .agg (rowA 4 oneF)) (results_row rfl _ _ w.heap.size 4 _ _ _ rfl hB.setRow Try.underlying85 rfl quatSize) rfl ⟨rfl, below_setRow hb (Nat.le_refl _) _⟩
set_option maxHeartbeats 4000000 in
theorem unit_any (p o : Nat) (f : Nat → Int) (h : Bool) (w : World) (fl : Fl p o h w) :
    Calls Try.prog 151 #[.pointer (some ⟨p, o, none⟩), .agg (rowA 4 f)] w fun e w' => e = .returned (.agg (rowA 4 (unitF f))) ∧ FlW p o (h || unitH f) w w' := by
  have hpw := fl.lt
  go_enter Try.func151, Try.ntmps151
  go_upto_region 1 with (fail)
  rw [zero4]
  generalize hW : World.alloc (World.alloc w _) _ = W
  have hF : FlW p o h w W := by subst hW; exact ((FlW.refl fl).alloc _).alloc _
  have hB : Blk W w.heap.size (rowA 4 f) 85 := by subst hW; exact (Blk.made _ _ _ rfl).alloc _
  have hR : Blk W (w.heap.size + 1) (rowA 4 fun _ => 0) 85 := by subst hW; exact Blk.made _ _ _ (by simp)
  have hz : w.heap.size + 1 < W.heap.size := by subst hW; simp
  clear hW
  have fr := hF.fl fl
  go_wp2_with (refine row_load 85 _ rfl rfl w.heap.size 4 _ _ rfl hB _ Try.underlying85 rfl quatSize ?_)
  refine (usat_any p o f h W fr).mono ?_
  rintro e W1 ⟨rfl, k1⟩
  replace hB := hB.flag (by omega) k1
  replace hR := hR.flag (by omega) k1
  replace hF := hF.trans k1
  replace hz := Nat.lt_of_lt_of_le hz k1.size
  clear fr k1
  have HU := Lib.hid (show unitF f = (bif zeroB (satF f) then oneF else stepU (stepU (satF f))) ∧ unitH f = (satO f 4 || (bif zeroB (satF f) then false else stepO (satF f) || stepO (stepU (satF f)))) from ⟨rfl, rfl⟩)
  generalize satF f = g at *
  generalize satO f 4 = so at *
  have hB2 : Blk (W1.setRow w.heap.size (rowA 4 g)) w.heap.size (rowA 4 g) 85 := hB.setRow
  have hR2 : Blk (W1.setRow w.heap.size (rowA 4 g)) (w.heap.size + 1) (rowA 4 fun _ => 0) 85 := hR.otherRow (by omega)
  have hF2 := hF.row (b := w.heap.size) (Nat.le_refl _) (rowA 4 g)
  have hz2 : w.heap.size + 1 < (W1.setRow w.heap.size (rowA 4 g)).heap.size := by simpa using hz
  have HE := Lib.hid (eql_row quatFlat g (fun _ => 0))
  have HG := Lib.hid (guard_row quatFlat g (fun _ => 0))
  have H := Lib.hid (And.intro hR2 (And.intro hF2 hz2))
  clear hR hF hR2 hF2 hz2
  go_upto_region 2 with (first
    | (refine row_store 85 _ _ rfl rfl w.heap.size 4 _ _ _ rfl rfl hB quatSize ?_))
  obtain ⟨hR2, hF2, hz2⟩ := H.out
  clear H hz hB
  generalize W1.setRow w.heap.size (rowA 4 g) = W2 at *
  have fr2 := hF2.fl fl
  cases hq : zeroB g
  · have HU2 : unitF = unitF := rfl
    have hE : ∀ w, (binOp .eql 85 (.agg (rowA 4 g)) (.agg #[.int .i64 0, .int .i64 0, .int .i64 0, .int .i64 0])).run Try.prog w = .ok (.bool false) w := fun w => by
      rw [zero4, HE.out w]; show Result.ok (Value.bool (zeroB g)) w = _; rw [hq]
    have hG : ∀ op w x y, (eqGuard op 85 x y (.agg (rowA 4 g)) (.agg #[.int .i64 0, .int .i64 0, .int .i64 0, .int .i64 0])).run Try.prog w = .ok () w := fun op w x y => by
      rw [zero4]; exact HG.out w op x y
    have hq := Lib.hid hq
    clear HU2
    have H := Lib.hid (And.intro hR2 hF2)
    clear hR2 hF2
    go_wp2_with (refine row_load 85 _ rfl rfl w.heap.size 4 _ _ rfl hB2 _ Try.underlying85 rfl quatSize ?_)
    refine (ustep_any p o g _ W2 fr2).mono ?_
    rintro e W3 ⟨rfl, k3⟩
    have fr3 := k3.fl fr2
    go_wp2_with fail
    refine (ustep_any p o _ _ W3 fr3).mono ?_
    rintro e W4 ⟨rfl, k4⟩
    obtain ⟨hR2, hF2⟩ := H.out
    replace hR2 := (hR2.flag (by omega) k3).flag (by have := k3.size; omega) k4
    replace hF2 := (hF2.trans k3).trans k4
    have H := Lib.hid hF2
    clear hF2
    go_wp2_with (refine row_store 85 _ _ rfl rfl (w.heap.size + 1) 4 _ _ _ rfl rfl hR2 quatSize ?_)
    refine bodyPost_ret (v := .agg (rowA 4 (stepU (stepU g)))) (results_row rfl _ _ (w.heap.size + 1) 4 _ _ _ rfl hR2.setRow Try.underlying85 rfl quatSize) rfl ⟨?_, ?_⟩
    · rw [HU.out.1, hq.out]; rfl
    · rw [HU.out.2, hq.out]
      exact (flag_is (by simp [Bool.or_assoc]) H.out).row (by omega) _
  · have hE : ∀ w, (binOp .eql 85 (.agg (rowA 4 g)) (.agg #[.int .i64 0, .int .i64 0, .int .i64 0, .int .i64 0])).run Try.prog w = .ok (.bool true) w := fun w => by
      rw [zero4, HE.out w]; show Result.ok (Value.bool (zeroB g)) w = _; rw [hq]
    have hG : ∀ op w x y, (eqGuard op 85 x y (.agg (rowA 4 g)) (.agg #[.int .i64 0, .int .i64 0, .int .i64 0, .int .i64 0])).run Try.prog w = .ok () w := fun op w x y => by
      rw [zero4]; exact HG.out w op x y
    have hq := Lib.hid hq
    have H := Lib.hid (And.intro hR2 hF2)
    clear hR2 hF2
    go_wp2_with (refine row_load 85 _ rfl rfl w.heap.size 4 _ _ rfl hB2 _ Try.underlying85 rfl quatSize ?_)
    refine (uone_is W2).mono ?_
    rintro e W3 ⟨rfl, k3⟩
    obtain ⟨hR2, hF2⟩ := H.out
    replace hR2 := hR2.call k3
    have H := Lib.hid (hF2.then k3)
    clear hF2
    go_wp2_with (refine row_store 85 _ _ rfl rfl (w.heap.size + 1) 4 _ _ _ rfl rfl hR2 quatSize ?_)
    refine bodyPost_ret (v := .agg (rowA 4 oneF)) (results_row rfl _ _ (w.heap.size + 1) 4 _ _ _ rfl hR2.setRow Try.underlying85 rfl quatSize) rfl ⟨?_, ?_⟩
    · rw [HU.out.1, hq.out]; rfl
    · rw [HU.out.2, hq.out]
      exact (flag_is (by simp) H.out).row (by omega) _
end Go.Proofs.Ytdleeeahonfnkaa
