/- The walk of BlockOthers. -/
import Derived.Test.YtadeadpcpgfkbaaBlkAw
import Derived.Test.YtadeadpcpgfkbaaBlkE
import Derived.Test.YtadeadpcpgfkbaaPlainA
import Derived.Test.YtadeadpcpgfkbaaBlkO
import Derived.Test.YtadeadpcpgfkbaaKP
namespace Go.Proofs.Ytadeadpcpgfkbaa.blockOthers
open Go.RowKit
theorem reset_one (f : Nat → Int) (K : Nat) (hK : K < 24) (v : Int) (hv : 1 ≤ v ∧ v ≤ 17592186044416) : resetF f (K : Int) (fun _ => v) 1 = stepF f (bgS anew0 (K : Int) v) (tailS (bgS anew0 (K : Int) v)) ∧ resetH f (K : Int) (fun _ => v) 1 = stepH f (bgS anew0 (K : Int) v) (tailS (bgS anew0 (K : Int) v)) := by
  have e : wrap64 ((K : Int) + ((0 : Nat) : Int)) = (K : Int) := by rw [wrap64_sm (by omega) (by omega)]; omega
  have h1 : rsS (K : Int) (fun _ => v) 1 = bgS anew0 (K : Int) v := by rw [rsS, e]; rfl
  have h2 : rsH (K : Int) (fun _ => v) 1 = false := by
    rw [rsH, rsH, e, Bool.false_or]
    unfold bgH clamph
    rw [decide_eq_false (by omega), decide_eq_false (by omega), decide_eq_false (by omega)]
    exact Bool.and_false _
  unfold resetF resetH
  rw [h1, h2, Bool.false_or]
  exact ⟨rfl, rfl⟩
theorem forget_one (f : Nat → Int) (K : Nat) (h1 : atH f (K : Int) (K : Int) = false) (h2 : 1 ≤ atV f (K : Int) (K : Int) ∧ atV f (K : Int) (K : Int) ≤ 35184372088832) : forgetF f (fun _ => (K : Int)) 1 = stepF f (bgS anew0 (K : Int) (atV f (K : Int) (K : Int))) (tailS (bgS anew0 (K : Int) (atV f (K : Int) (K : Int)))) ∧ forgetH f (fun _ => (K : Int)) 1 = stepH f (bgS anew0 (K : Int) (atV f (K : Int) (K : Int))) (tailS (bgS anew0 (K : Int) (atV f (K : Int) (K : Int)))) := by
  have h3 : fgS f (fun _ => (K : Int)) 1 = bgS anew0 (K : Int) (atV f (K : Int) (K : Int)) := rfl
  have h4 : fgH f (fun _ => (K : Int)) 1 = false := by
    rw [fgH, fgH, Bool.false_or, h1, Bool.false_or]
    unfold clamph
    rw [decide_eq_false (by omega), decide_eq_false (by omega), decide_eq_false (by omega)]
    exact Bool.and_false _
  unfold forgetF forgetH
  rw [h3, h4, Bool.false_or]
  exact ⟨rfl, rfl⟩
theorem one_row (w : World) (v : Int) (t : TypeId) : Ints (w.alloc (.cells #[.int .i64 v] t)) w.heap.size 0 1 (fun _ => v) := by
  have h : Blk (w.alloc (.cells #[.int .i64 v] t)) w.heap.size #[.int .i64 v] t := Blk.made _ _ _ rfl
  refine ⟨fun i hi => ?_⟩
  obtain rfl : i = 0 := by omega
  rw [h.cell]; rfl
theorem at_is {q : Nat} {f : Nat → Int} {i j x : Int} {hb : Bool} {w : World} {vs : Array Value} (h : (hb || atH f i j) = hb) (hx : atV f i j = x)
    (hc : Calls Try.prog 28 vs w fun e w' => e = .returned (.int .i64 (atV f i j)) ∧ FlW q 0 (hb || atH f i j) w w') : Calls Try.prog 28 vs w fun e w' => e = .returned (.int .i64 x) ∧ FlW q 0 hb w w' := by
  rw [h, hx] at hc
  exact hc
def act9 (ws q A B w2s w5s : Nat) (f0 f a b : Nat → Int) (K I J : Nat) (v : Int) (a14 a75 a76 a77 a78 a79 a80 a81 a82 a83 a84 a85 : Value) : Act := ⟨⟨.agg (rowA 300 f0) :: .int .i64 (K : Int) :: .int .i64 (I : Int) :: .int .i64 (J : Int) :: .int .i64 v :: .pointer (some ⟨ws, 0, none⟩) :: undef :: undef :: undef :: undef :: .bool false :: .pointer (some ⟨q, 0, none⟩) :: .pointer (some ⟨A, 0, none⟩) :: .pointer (some ⟨B, 0, none⟩) :: a14 :: undef :: undef :: undef :: .bool true :: .bool false :: .int .i64 (K : Int) :: .bool (decide ((K : Int) < 0)) :: .bool (decide ((K : Int) < 0)) :: .int .i64 (K : Int) :: .bool (decide (23 < (K : Int))) :: .bool (decide ((K : Int) < 0) || decide (23 < (K : Int))) :: .bool (decide ((K : Int) < 0) || decide (23 < (K : Int))) :: .int .i64 (I : Int) :: .bool (decide ((I : Int) < 0)) :: .bool (decide ((K : Int) < 0) || decide (23 < (K : Int)) || decide ((I : Int) < 0)) :: .bool (decide ((K : Int) < 0) || decide (23 < (K : Int)) || decide ((I : Int) < 0)) :: .int .i64 (I : Int) :: .bool (decide (23 < (I : Int))) :: .bool (decide ((K : Int) < 0) || decide (23 < (K : Int)) || decide ((I : Int) < 0) || decide (23 < (I : Int))) :: .bool (decide ((K : Int) < 0) || decide (23 < (K : Int)) || decide ((I : Int) < 0) || decide (23 < (I : Int))) :: .int .i64 (J : Int) :: .bool (decide ((J : Int) < 0)) :: .bool (decide ((K : Int) < 0) || decide (23 < (K : Int)) || decide ((I : Int) < 0) || decide (23 < (I : Int)) || decide ((J : Int) < 0)) :: .bool (decide ((K : Int) < 0) || decide (23 < (K : Int)) || decide ((I : Int) < 0) || decide (23 < (I : Int)) || decide ((J : Int) < 0)) :: .int .i64 (J : Int) :: .bool (decide (23 < (J : Int))) :: .bool (decide ((K : Int) < 0) || decide (23 < (K : Int)) || decide ((I : Int) < 0) || decide (23 < (I : Int)) || decide ((J : Int) < 0) || decide (23 < (J : Int))) :: .bool (decide ((K : Int) < 0) || decide (23 < (K : Int)) || decide ((I : Int) < 0) || decide (23 < (I : Int)) || decide ((J : Int) < 0) || decide (23 < (J : Int))) :: .int .i64 (I : Int) :: .int .i64 (K : Int) :: .bool false :: .bool (decide ((K : Int) < 0) || decide (23 < (K : Int)) || decide ((I : Int) < 0) || decide (23 < (I : Int)) || decide ((J : Int) < 0) || decide (23 < (J : Int))) :: .bool (decide ((K : Int) < 0) || decide (23 < (K : Int)) || decide ((I : Int) < 0) || decide (23 < (I : Int)) || decide ((J : Int) < 0) || decide (23 < (J : Int))) :: .int .i64 (J : Int) :: .int .i64 (K : Int) :: .bool false :: .bool (decide ((K : Int) < 0) || decide (23 < (K : Int)) || decide ((I : Int) < 0) || decide (23 < (I : Int)) || decide ((J : Int) < 0) || decide (23 < (J : Int))) :: .bool (decide ((K : Int) < 0) || decide (23 < (K : Int)) || decide ((I : Int) < 0) || decide (23 < (I : Int)) || decide ((J : Int) < 0) || decide (23 < (J : Int))) :: .int .i64 v :: .bool (decide (v < 1)) :: .bool (decide ((K : Int) < 0) || decide (23 < (K : Int)) || decide ((I : Int) < 0) || decide (23 < (I : Int)) || decide ((J : Int) < 0) || decide (23 < (J : Int)) || decide (v < 1)) :: .bool (decide ((K : Int) < 0) || decide (23 < (K : Int)) || decide ((I : Int) < 0) || decide (23 < (I : Int)) || decide ((J : Int) < 0) || decide (23 < (J : Int)) || decide (v < 1)) :: .int .i64 v :: .bool (decide (17592186044416 < v)) :: .bool (decide ((K : Int) < 0) || decide (23 < (K : Int)) || decide ((I : Int) < 0) || decide (23 < (I : Int)) || decide ((J : Int) < 0) || decide (23 < (J : Int)) || decide (v < 1) || decide (17592186044416 < v)) :: .agg (rowA 300 f0) :: .agg (rowA 300 f) :: .agg #[.bool false] :: .pointer (some ⟨q, 0, none⟩) :: .pointer (some ⟨q, 0, none⟩) :: .agg (rowA 300 f) :: .int .i64 (K : Int) :: .int .i64 v :: .slice (some ⟨w2s, 0, none⟩) 1 1 :: .agg (rowA 300 a) :: .pointer (some ⟨q, 0, none⟩) :: .agg (rowA 300 f) :: .int .i64 (K : Int) :: .slice (some ⟨w5s, 0, none⟩) 1 1 :: .agg (rowA 300 b) :: a75 :: a76 :: a77 :: a78 :: a79 :: a80 :: a81 :: a82 :: a83 :: a84 :: a85 :: undef :: undef :: undef :: undef :: undef :: undef :: undef :: undef :: undef :: undef :: undef :: undef :: undef :: undef :: undef :: undef :: undef :: undef :: undef :: undef :: undef :: undef :: undef :: undef :: undef :: undef :: undef :: undef :: undef :: undef :: undef :: undef :: undef :: undef :: undef :: undef :: undef :: undef :: undef :: undef :: undef :: undef :: undef :: undef :: undef :: undef :: undef :: undef :: undef :: undef :: undef :: undef :: undef :: undef :: undef :: undef :: undef :: []⟩, []⟩
def act10 (ws q A B w2s w5s : Nat) (f0 f a b : Nat → Int) (K I J : Nat) (v x xa : Int) (z75 : Value) (z76 : Value) (z77 : Value) (z78 : Value) (z79 : Value) (z80 : Value) (z81 : Value) (z82 : Value) (z83 : Value) (z84 : Value) (z85 : Value) (a15 a86 a87 a88 a89 a90 a91 a92 a93 a94 a95 a96 : Value) : Act := ⟨⟨.agg (rowA 300 f0) :: .int .i64 (K : Int) :: .int .i64 (I : Int) :: .int .i64 (J : Int) :: .int .i64 v :: .pointer (some ⟨ws, 0, none⟩) :: undef :: undef :: undef :: undef :: .bool false :: .pointer (some ⟨q, 0, none⟩) :: .pointer (some ⟨A, 0, none⟩) :: .pointer (some ⟨B, 0, none⟩) :: .int .i64 (IntKind.i64.wrap (xa - x)) :: a15 :: undef :: undef :: .bool true :: .bool false :: .int .i64 (K : Int) :: .bool (decide ((K : Int) < 0)) :: .bool (decide ((K : Int) < 0)) :: .int .i64 (K : Int) :: .bool (decide (23 < (K : Int))) :: .bool (decide ((K : Int) < 0) || decide (23 < (K : Int))) :: .bool (decide ((K : Int) < 0) || decide (23 < (K : Int))) :: .int .i64 (I : Int) :: .bool (decide ((I : Int) < 0)) :: .bool (decide ((K : Int) < 0) || decide (23 < (K : Int)) || decide ((I : Int) < 0)) :: .bool (decide ((K : Int) < 0) || decide (23 < (K : Int)) || decide ((I : Int) < 0)) :: .int .i64 (I : Int) :: .bool (decide (23 < (I : Int))) :: .bool (decide ((K : Int) < 0) || decide (23 < (K : Int)) || decide ((I : Int) < 0) || decide (23 < (I : Int))) :: .bool (decide ((K : Int) < 0) || decide (23 < (K : Int)) || decide ((I : Int) < 0) || decide (23 < (I : Int))) :: .int .i64 (J : Int) :: .bool (decide ((J : Int) < 0)) :: .bool (decide ((K : Int) < 0) || decide (23 < (K : Int)) || decide ((I : Int) < 0) || decide (23 < (I : Int)) || decide ((J : Int) < 0)) :: .bool (decide ((K : Int) < 0) || decide (23 < (K : Int)) || decide ((I : Int) < 0) || decide (23 < (I : Int)) || decide ((J : Int) < 0)) :: .int .i64 (J : Int) :: .bool (decide (23 < (J : Int))) :: .bool (decide ((K : Int) < 0) || decide (23 < (K : Int)) || decide ((I : Int) < 0) || decide (23 < (I : Int)) || decide ((J : Int) < 0) || decide (23 < (J : Int))) :: .bool (decide ((K : Int) < 0) || decide (23 < (K : Int)) || decide ((I : Int) < 0) || decide (23 < (I : Int)) || decide ((J : Int) < 0) || decide (23 < (J : Int))) :: .int .i64 (I : Int) :: .int .i64 (K : Int) :: .bool false :: .bool (decide ((K : Int) < 0) || decide (23 < (K : Int)) || decide ((I : Int) < 0) || decide (23 < (I : Int)) || decide ((J : Int) < 0) || decide (23 < (J : Int))) :: .bool (decide ((K : Int) < 0) || decide (23 < (K : Int)) || decide ((I : Int) < 0) || decide (23 < (I : Int)) || decide ((J : Int) < 0) || decide (23 < (J : Int))) :: .int .i64 (J : Int) :: .int .i64 (K : Int) :: .bool false :: .bool (decide ((K : Int) < 0) || decide (23 < (K : Int)) || decide ((I : Int) < 0) || decide (23 < (I : Int)) || decide ((J : Int) < 0) || decide (23 < (J : Int))) :: .bool (decide ((K : Int) < 0) || decide (23 < (K : Int)) || decide ((I : Int) < 0) || decide (23 < (I : Int)) || decide ((J : Int) < 0) || decide (23 < (J : Int))) :: .int .i64 v :: .bool (decide (v < 1)) :: .bool (decide ((K : Int) < 0) || decide (23 < (K : Int)) || decide ((I : Int) < 0) || decide (23 < (I : Int)) || decide ((J : Int) < 0) || decide (23 < (J : Int)) || decide (v < 1)) :: .bool (decide ((K : Int) < 0) || decide (23 < (K : Int)) || decide ((I : Int) < 0) || decide (23 < (I : Int)) || decide ((J : Int) < 0) || decide (23 < (J : Int)) || decide (v < 1)) :: .int .i64 v :: .bool (decide (17592186044416 < v)) :: .bool (decide ((K : Int) < 0) || decide (23 < (K : Int)) || decide ((I : Int) < 0) || decide (23 < (I : Int)) || decide ((J : Int) < 0) || decide (23 < (J : Int)) || decide (v < 1) || decide (17592186044416 < v)) :: .agg (rowA 300 f0) :: .agg (rowA 300 f) :: .agg #[.bool false] :: .pointer (some ⟨q, 0, none⟩) :: .pointer (some ⟨q, 0, none⟩) :: .agg (rowA 300 f) :: .int .i64 (K : Int) :: .int .i64 v :: .slice (some ⟨w2s, 0, none⟩) 1 1 :: .agg (rowA 300 a) :: .pointer (some ⟨q, 0, none⟩) :: .agg (rowA 300 f) :: .int .i64 (K : Int) :: .slice (some ⟨w5s, 0, none⟩) 1 1 :: .agg (rowA 300 b) :: z75 :: z76 :: z77 :: z78 :: z79 :: z80 :: z81 :: z82 :: z83 :: z84 :: z85 :: a86 :: a87 :: a88 :: a89 :: a90 :: a91 :: a92 :: a93 :: a94 :: a95 :: a96 :: undef :: undef :: undef :: undef :: undef :: undef :: undef :: undef :: undef :: undef :: undef :: undef :: undef :: undef :: undef :: undef :: undef :: undef :: undef :: undef :: undef :: undef :: undef :: undef :: undef :: undef :: undef :: undef :: undef :: undef :: undef :: undef :: undef :: undef :: undef :: undef :: undef :: undef :: undef :: undef :: undef :: undef :: undef :: undef :: undef :: undef :: []⟩, []⟩
def act11 (ws q A B w2s w5s : Nat) (f0 f a b : Nat → Int) (K I J : Nat) (v x xa xb : Int) (z75 : Value) (z76 : Value) (z77 : Value) (z78 : Value) (z79 : Value) (z80 : Value) (z81 : Value) (z82 : Value) (z83 : Value) (z84 : Value) (z85 : Value) (z86 : Value) (z87 : Value) (z88 : Value) (z89 : Value) (z90 : Value) (z91 : Value) (z92 : Value) (z93 : Value) (z94 : Value) (z95 : Value) (z96 : Value) (a16 a97 a98 a99 a100 a101 a102 a103 a104 a105 a106 a107 : Value) : Act := ⟨⟨.agg (rowA 300 f0) :: .int .i64 (K : Int) :: .int .i64 (I : Int) :: .int .i64 (J : Int) :: .int .i64 v :: .pointer (some ⟨ws, 0, none⟩) :: undef :: undef :: undef :: undef :: .bool false :: .pointer (some ⟨q, 0, none⟩) :: .pointer (some ⟨A, 0, none⟩) :: .pointer (some ⟨B, 0, none⟩) :: .int .i64 (IntKind.i64.wrap (xa - x)) :: .int .i64 (IntKind.i64.wrap (xb - x)) :: a16 :: undef :: .bool true :: .bool false :: .int .i64 (K : Int) :: .bool (decide ((K : Int) < 0)) :: .bool (decide ((K : Int) < 0)) :: .int .i64 (K : Int) :: .bool (decide (23 < (K : Int))) :: .bool (decide ((K : Int) < 0) || decide (23 < (K : Int))) :: .bool (decide ((K : Int) < 0) || decide (23 < (K : Int))) :: .int .i64 (I : Int) :: .bool (decide ((I : Int) < 0)) :: .bool (decide ((K : Int) < 0) || decide (23 < (K : Int)) || decide ((I : Int) < 0)) :: .bool (decide ((K : Int) < 0) || decide (23 < (K : Int)) || decide ((I : Int) < 0)) :: .int .i64 (I : Int) :: .bool (decide (23 < (I : Int))) :: .bool (decide ((K : Int) < 0) || decide (23 < (K : Int)) || decide ((I : Int) < 0) || decide (23 < (I : Int))) :: .bool (decide ((K : Int) < 0) || decide (23 < (K : Int)) || decide ((I : Int) < 0) || decide (23 < (I : Int))) :: .int .i64 (J : Int) :: .bool (decide ((J : Int) < 0)) :: .bool (decide ((K : Int) < 0) || decide (23 < (K : Int)) || decide ((I : Int) < 0) || decide (23 < (I : Int)) || decide ((J : Int) < 0)) :: .bool (decide ((K : Int) < 0) || decide (23 < (K : Int)) || decide ((I : Int) < 0) || decide (23 < (I : Int)) || decide ((J : Int) < 0)) :: .int .i64 (J : Int) :: .bool (decide (23 < (J : Int))) :: .bool (decide ((K : Int) < 0) || decide (23 < (K : Int)) || decide ((I : Int) < 0) || decide (23 < (I : Int)) || decide ((J : Int) < 0) || decide (23 < (J : Int))) :: .bool (decide ((K : Int) < 0) || decide (23 < (K : Int)) || decide ((I : Int) < 0) || decide (23 < (I : Int)) || decide ((J : Int) < 0) || decide (23 < (J : Int))) :: .int .i64 (I : Int) :: .int .i64 (K : Int) :: .bool false :: .bool (decide ((K : Int) < 0) || decide (23 < (K : Int)) || decide ((I : Int) < 0) || decide (23 < (I : Int)) || decide ((J : Int) < 0) || decide (23 < (J : Int))) :: .bool (decide ((K : Int) < 0) || decide (23 < (K : Int)) || decide ((I : Int) < 0) || decide (23 < (I : Int)) || decide ((J : Int) < 0) || decide (23 < (J : Int))) :: .int .i64 (J : Int) :: .int .i64 (K : Int) :: .bool false :: .bool (decide ((K : Int) < 0) || decide (23 < (K : Int)) || decide ((I : Int) < 0) || decide (23 < (I : Int)) || decide ((J : Int) < 0) || decide (23 < (J : Int))) :: .bool (decide ((K : Int) < 0) || decide (23 < (K : Int)) || decide ((I : Int) < 0) || decide (23 < (I : Int)) || decide ((J : Int) < 0) || decide (23 < (J : Int))) :: .int .i64 v :: .bool (decide (v < 1)) :: .bool (decide ((K : Int) < 0) || decide (23 < (K : Int)) || decide ((I : Int) < 0) || decide (23 < (I : Int)) || decide ((J : Int) < 0) || decide (23 < (J : Int)) || decide (v < 1)) :: .bool (decide ((K : Int) < 0) || decide (23 < (K : Int)) || decide ((I : Int) < 0) || decide (23 < (I : Int)) || decide ((J : Int) < 0) || decide (23 < (J : Int)) || decide (v < 1)) :: .int .i64 v :: .bool (decide (17592186044416 < v)) :: .bool (decide ((K : Int) < 0) || decide (23 < (K : Int)) || decide ((I : Int) < 0) || decide (23 < (I : Int)) || decide ((J : Int) < 0) || decide (23 < (J : Int)) || decide (v < 1) || decide (17592186044416 < v)) :: .agg (rowA 300 f0) :: .agg (rowA 300 f) :: .agg #[.bool false] :: .pointer (some ⟨q, 0, none⟩) :: .pointer (some ⟨q, 0, none⟩) :: .agg (rowA 300 f) :: .int .i64 (K : Int) :: .int .i64 v :: .slice (some ⟨w2s, 0, none⟩) 1 1 :: .agg (rowA 300 a) :: .pointer (some ⟨q, 0, none⟩) :: .agg (rowA 300 f) :: .int .i64 (K : Int) :: .slice (some ⟨w5s, 0, none⟩) 1 1 :: .agg (rowA 300 b) :: z75 :: z76 :: z77 :: z78 :: z79 :: z80 :: z81 :: z82 :: z83 :: z84 :: z85 :: z86 :: z87 :: z88 :: z89 :: z90 :: z91 :: z92 :: z93 :: z94 :: z95 :: z96 :: a97 :: a98 :: a99 :: a100 :: a101 :: a102 :: a103 :: a104 :: a105 :: a106 :: a107 :: undef :: undef :: undef :: undef :: undef :: undef :: undef :: undef :: undef :: undef :: undef :: undef :: undef :: undef :: undef :: undef :: undef :: undef :: undef :: undef :: undef :: undef :: undef :: undef :: undef :: undef :: undef :: undef :: undef :: undef :: undef :: undef :: undef :: undef :: undef :: []⟩, []⟩
abbrev Good (f : Nat → Int) (k i j v : Int) (w : World) : Prop :=
  Calls Try.prog 6 #[.agg (rowA 300 f), .int .i64 k, .int .i64 i, .int .i64 j, .int .i64 v] w fun e w' => e = .returned (.bool true) ∧ Below w.heap.size w w'
set_option maxRecDepth 100000 in
set_option maxHeartbeats 8000000 in
theorem walk (f0 : Nat → Int) (_ : ∀ k, -9223372036854775808 ≤ f0 k ∧ f0 k ≤ 9223372036854775807) (k : Int) (_ : -9223372036854775808 ≤ k ∧ k ≤ 9223372036854775807) (i : Int) (_ : -9223372036854775808 ≤ i ∧ i ≤ 9223372036854775807) (j : Int) (_ : -9223372036854775808 ≤ j ∧ j ≤ 9223372036854775807) (v : Int) (_ : -9223372036854775808 ≤ v ∧ v ≤ 9223372036854775807) (w : World) : Good f0 k i j v w := by
  unfold Good
  go_enter Try.func6, Try.ntmps6
  go_wp2_with fail
  generalize hW : World.alloc w _ = W0
  have hb : Below w.heap.size w W0 := by subst hW; exact (Below.refl _ _).alloc (Nat.le_refl _) _
  have hP : Blk W0 w.heap.size (rowA 300 f0) 29 := by subst hW; exact Blk.made _ _ _ rfl
  clear hW
  refine (awake12_any W0).mono ?_
  rintro e w1 ⟨rfl, hb1⟩
  replace hP := hP.call hb1
  replace hb := hb.trans (hb1.mono hb.size)
  clear hb1 W0
  by_cases h0 : k < 0
  · go_wp2_with fail
    go_ret
    exact ⟨rfl, hb⟩
  by_cases h1 : (23 : Int) < k
  · go_wp2_with fail
    go_ret
    exact ⟨rfl, hb⟩
  by_cases h2 : i < 0
  · go_wp2_with fail
    go_ret
    exact ⟨rfl, hb⟩
  by_cases h3 : (23 : Int) < i
  · go_wp2_with fail
    go_ret
    exact ⟨rfl, hb⟩
  by_cases h4 : j < 0
  · go_wp2_with fail
    go_ret
    exact ⟨rfl, hb⟩
  by_cases h5 : (23 : Int) < j
  · go_wp2_with fail
    go_ret
    exact ⟨rfl, hb⟩
  by_cases h6 : i = k
  · go_wp2_with fail
    go_ret
    exact ⟨rfl, hb⟩
  by_cases h7 : j = k
  · go_wp2_with fail
    go_ret
    exact ⟨rfl, hb⟩
  by_cases h8 : v < 1
  · go_wp2_with fail
    go_ret
    exact ⟨rfl, hb⟩
  by_cases h9 : (17592186044416 : Int) < v
  · go_wp2_with fail
    go_ret
    exact ⟨rfl, hb⟩
  have q6 : (i == k) = false := by simpa using h6
  have q7 : (j == k) = false := by simpa using h7
  go_upto_region 5 with (fail)
  obtain ⟨K, rfl⟩ := Int.eq_ofNat_of_zero_le (show 0 ≤ k by omega)
  obtain ⟨I, rfl⟩ := Int.eq_ofNat_of_zero_le (show 0 ≤ i by omega)
  obtain ⟨J, rfl⟩ := Int.eq_ofNat_of_zero_le (show 0 ≤ j by omega)
  have hK : K < 24 := by omega
  have hI : I < 24 := by omega
  have hJ : J < 24 := by omega
  have hIK : I ≠ K := by omega
  have hJK : J ≠ K := by omega
  have hv : 1 ≤ v ∧ v ≤ 17592186044416 := by omega
  clear h0 h1 h2 h3 h4 h5 h6 h7 h8 h9 q6 q7
  go_wp2_with ((with_reducible refine row_load 29 (.tmp 5) ?_ ?_ w.heap.size 300 f0 29 ?_ hP _ Try.underlying29 ?_ covSize ?_); rfl; rfl; rfl; rfl)
  refine (plain_any f0 w1).mono ?_
  rintro e w2 ⟨rfl, hb2⟩
  replace hP := hP.call hb2
  replace hb := hb.trans (hb2.mono hb.size)
  clear hb2 w1
  have HF := plain_ok f0
  generalize plainF f0 = f at *
  obtain ⟨V1, V2, V3⟩ := EA.var_plain HF hK
  obtain ⟨r1, r2⟩ := reset_one f K hK v hv
  obtain ⟨o1, o2⟩ := forget_one f K V1 ⟨V2, V3⟩
  obtain ⟨A1, A2, _, _⟩ := EA.anew_num HF hK (v := v) ⟨hv.1, by omega⟩
  obtain ⟨B1, B2, B3, B4⟩ := EA.anew_num HF hK (v := atV f (K : Int) (K : Int)) ⟨V2, V3⟩
  rw [← r2] at A1
  rw [← o2] at B1
  rw [← r1] at A2
  rw [← o1] at B2 B3 B4
  obtain ⟨a1, a2, a3, a4, a5, a6⟩ := A2 I J hI hJ hIK hJK
  obtain ⟨_, b2, _, _, b5, b6⟩ := B2 I J hI hJ hIK hJK
  clear A2 B2 r1 r2 o1 o2 HF
  go_upto_region 6 with ((with_reducible refine row_store 29 (.tmp 5) (.tmp 61) ?_ ?_ w.heap.size 300 f f0 29 ?_ ?_ hP covSize ?_); rfl; rfl; rfl; rfl)
  replace hP := hP.setRow (d := rowA 300 f)
  replace hb := below_setRow hb (Nat.le_refl _) (rowA 300 f)
  generalize World.setRow _ _ _ = w3 at *
  go_upto_region 7 with (fail)
  have L0 : Lw w w3.heap.size false [(w.heap.size, 300, f, 29)] (w3.alloc (.cells #[.bool false] 25)) :=
    ⟨Fl.made w3 25 false, hb.alloc hb.size _, hb.size, fun x hx => by
      obtain rfl := List.mem_singleton.1 hx
      exact ⟨Nat.le_refl _, by have := hP.lt; dsimp only; omega, hP.alloc _⟩⟩
  clear hP hb
  generalize World.alloc w3 _ = WZ at *
  generalize w3.heap.size = q at *
  have hP : Blk WZ w.heap.size (rowA 300 f) 29 := L0.get (.head _)
  have hS1 := one_row WZ v 2
  have L1 := L0.alloc (.cells #[.int .i64 v] 2)
  have hlt := L0.fl.lt
  clear L0
  go_wp2_with ((with_reducible refine row_load 29 (.tmp 5) ?_ ?_ w.heap.size 300 f 29 ?_ hP _ Try.underlying29 ?_ covSize ?_); rfl; rfl; rfl; rfl)
  refine (reset_any q 0 f (K : Int) (some ⟨WZ.heap.size, 0, none⟩) 1 1 (fun _ => v) false _ L1.fl (by omega) (fun _ => ⟨_, _, rfl, by omega, by simp, hS1⟩)).mono ?_
  rintro e w4 ⟨rfl, k4⟩
  have L4 := (L1.flag k4).hit (by rw [A1]; rfl : (false || resetH f (K : Int) (fun _ => v) 1) = false)
  clear L1 k4 hP A1 hS1 hlt
  go_upto_region 8 with ((with_reducible refine row_store 29 (.tmp 12) (.tmp 69) ?_ ?_ w4.heap.size 300 (resetF f (K : Int) (fun _ => v) 1) (fun _ => 0) 29 ?_ ?_ ?_ covSize ?_); rfl; rfl; rfl; rfl; (rw [zeroCov]; exact Blk.made _ _ _ rfl))
  rw [zeroCov]
  have L5 := (L4.made 300 (fun _ => 0) 29).lay L4.newer (resetF f (K : Int) (fun _ => v) 1)
  clear L4
  generalize resetF f (K : Int) (fun _ => v) 1 = a at *
  generalize World.setRow _ _ _ = w5 at *
  generalize w4.heap.size = A at *
  have hP : Blk w5 w.heap.size (rowA 300 f) 29 := L5.get (.tail _ (.head _))
  have hS1 := one_row w5 (K : Int) 3
  have L6 := L5.alloc (.cells #[.int .i64 (K : Int)] 3)
  have hlt := L5.fl.lt
  clear L5
  go_wp2_with ((with_reducible refine row_load 29 (.tmp 5) ?_ ?_ w.heap.size 300 f 29 ?_ hP _ Try.underlying29 ?_ covSize ?_); rfl; rfl; rfl; rfl)
  refine (forget_any q 0 f (some ⟨w5.heap.size, 0, none⟩) 1 1 (fun _ => (K : Int)) false _ L6.fl (by omega) (fun _ => ⟨_, _, rfl, by omega, by simp, hS1⟩)).mono ?_
  rintro e w7 ⟨rfl, k7⟩
  have L7 := (L6.flag k7).hit (by rw [B1]; rfl : (false || forgetH f (fun _ => (K : Int)) 1) = false)
  clear L6 k7 hP B1 hS1 hlt
  go_upto_region 9 with ((with_reducible refine row_store 29 (.tmp 13) (.tmp 74) ?_ ?_ w7.heap.size 300 (forgetF f (fun _ => (K : Int)) 1) (fun _ => 0) 29 ?_ ?_ ?_ covSize ?_); rfl; rfl; rfl; rfl; (rw [zeroCov]; exact Blk.made _ _ _ rfl))
  rw [zeroCov]
  have L8 := (L7.made 300 (fun _ => 0) 29).lay L7.newer (forgetF f (fun _ => (K : Int)) 1)
  clear L7
  generalize forgetF f (fun _ => (K : Int)) 1 = b at *
  generalize World.setRow _ _ _ = w8 at *
  generalize w7.heap.size = B at *
  generalize hx : atV f (I : Int) (J : Int) = x at *
  generalize hxa : atV a (I : Int) (J : Int) = xa at *
  generalize hxb : atV b (I : Int) (J : Int) = xb at *
  generalize hy : atV f (K : Int) (K : Int) = y at *
  have e1 : IntKind.i64.wrap (xa - x) = xa - x := i64_id _ (by omega) (by omega)
  have e2 : IntKind.i64.wrap (xb - x) = xb - x := i64_id _ (by omega) (by omega)
  have e3 : IntKind.i64.wrap (y - y) = 0 := by rw [Int.sub_self]; decide
  have hcx := fun (hb : Bool) (w' : World) (fl : Fl q 0 hb w') => at_is (by rw [a1]; exact Bool.or_false _) hx (at_any q 0 f (I : Int) (J : Int) hb w' fl)
  have hca := fun (hb : Bool) (w' : World) (fl : Fl q 0 hb w') => at_is (by rw [a2]; exact Bool.or_false _) hxa (at_any q 0 a (I : Int) (J : Int) hb w' fl)
  have hcb := fun (hb : Bool) (w' : World) (fl : Fl q 0 hb w') => at_is (by rw [b2]; exact Bool.or_false _) hxb (at_any q 0 b (I : Int) (J : Int) hb w' fl)
  have hcy := fun (hb : Bool) (w' : World) (fl : Fl q 0 hb w') => at_is (by rw [V1]; exact Bool.or_false _) hy (at_any q 0 f (K : Int) (K : Int) hb w' fl)
  have hcz := fun (hb : Bool) (w' : World) (fl : Fl q 0 hb w') => at_is (by rw [B4]; exact Bool.or_false _) B3 (at_any q 0 b (K : Int) (K : Int) hb w' fl)
  have hs := L8
  clear L8
  refine wp_join [14, 75, 76, 77, 78, 79, 80, 81, 82, 83, 84, 85] (fun w' u => u 14 = .int .i64 (IntKind.i64.wrap (xa - x)) ∧ Lw w q false [(B, 300, b, 29), (A, 300, a, 29), (w.heap.size, 300, f, 29)] w')
    (fun u9 => ⟨⟨.agg (rowA 300 f0) :: .int .i64 (K : Int) :: .int .i64 (I : Int) :: .int .i64 (J : Int) :: .int .i64 v :: .pointer (some ⟨w.heap.size, 0, none⟩) :: undef :: undef :: undef :: undef :: .bool false :: .pointer (some ⟨q, 0, none⟩) :: .pointer (some ⟨A, 0, none⟩) :: .pointer (some ⟨B, 0, none⟩) :: u9 14 :: undef :: undef :: undef :: .bool true :: .bool false :: .int .i64 (K : Int) :: .bool (decide ((K : Int) < 0)) :: .bool (decide ((K : Int) < 0)) :: .int .i64 (K : Int) :: .bool (decide (23 < (K : Int))) :: .bool (decide ((K : Int) < 0) || decide (23 < (K : Int))) :: .bool (decide ((K : Int) < 0) || decide (23 < (K : Int))) :: .int .i64 (I : Int) :: .bool (decide ((I : Int) < 0)) :: .bool (decide ((K : Int) < 0) || decide (23 < (K : Int)) || decide ((I : Int) < 0)) :: .bool (decide ((K : Int) < 0) || decide (23 < (K : Int)) || decide ((I : Int) < 0)) :: .int .i64 (I : Int) :: .bool (decide (23 < (I : Int))) :: .bool (decide ((K : Int) < 0) || decide (23 < (K : Int)) || decide ((I : Int) < 0) || decide (23 < (I : Int))) :: .bool (decide ((K : Int) < 0) || decide (23 < (K : Int)) || decide ((I : Int) < 0) || decide (23 < (I : Int))) :: .int .i64 (J : Int) :: .bool (decide ((J : Int) < 0)) :: .bool (decide ((K : Int) < 0) || decide (23 < (K : Int)) || decide ((I : Int) < 0) || decide (23 < (I : Int)) || decide ((J : Int) < 0)) :: .bool (decide ((K : Int) < 0) || decide (23 < (K : Int)) || decide ((I : Int) < 0) || decide (23 < (I : Int)) || decide ((J : Int) < 0)) :: .int .i64 (J : Int) :: .bool (decide (23 < (J : Int))) :: .bool (decide ((K : Int) < 0) || decide (23 < (K : Int)) || decide ((I : Int) < 0) || decide (23 < (I : Int)) || decide ((J : Int) < 0) || decide (23 < (J : Int))) :: .bool (decide ((K : Int) < 0) || decide (23 < (K : Int)) || decide ((I : Int) < 0) || decide (23 < (I : Int)) || decide ((J : Int) < 0) || decide (23 < (J : Int))) :: .int .i64 (I : Int) :: .int .i64 (K : Int) :: .bool false :: .bool (decide ((K : Int) < 0) || decide (23 < (K : Int)) || decide ((I : Int) < 0) || decide (23 < (I : Int)) || decide ((J : Int) < 0) || decide (23 < (J : Int))) :: .bool (decide ((K : Int) < 0) || decide (23 < (K : Int)) || decide ((I : Int) < 0) || decide (23 < (I : Int)) || decide ((J : Int) < 0) || decide (23 < (J : Int))) :: .int .i64 (J : Int) :: .int .i64 (K : Int) :: .bool false :: .bool (decide ((K : Int) < 0) || decide (23 < (K : Int)) || decide ((I : Int) < 0) || decide (23 < (I : Int)) || decide ((J : Int) < 0) || decide (23 < (J : Int))) :: .bool (decide ((K : Int) < 0) || decide (23 < (K : Int)) || decide ((I : Int) < 0) || decide (23 < (I : Int)) || decide ((J : Int) < 0) || decide (23 < (J : Int))) :: .int .i64 v :: .bool (decide (v < 1)) :: .bool (decide ((K : Int) < 0) || decide (23 < (K : Int)) || decide ((I : Int) < 0) || decide (23 < (I : Int)) || decide ((J : Int) < 0) || decide (23 < (J : Int)) || decide (v < 1)) :: .bool (decide ((K : Int) < 0) || decide (23 < (K : Int)) || decide ((I : Int) < 0) || decide (23 < (I : Int)) || decide ((J : Int) < 0) || decide (23 < (J : Int)) || decide (v < 1)) :: .int .i64 v :: .bool (decide (17592186044416 < v)) :: .bool (decide ((K : Int) < 0) || decide (23 < (K : Int)) || decide ((I : Int) < 0) || decide (23 < (I : Int)) || decide ((J : Int) < 0) || decide (23 < (J : Int)) || decide (v < 1) || decide (17592186044416 < v)) :: .agg (rowA 300 f0) :: .agg (rowA 300 f) :: .agg #[.bool false] :: .pointer (some ⟨q, 0, none⟩) :: .pointer (some ⟨q, 0, none⟩) :: .agg (rowA 300 f) :: .int .i64 (K : Int) :: .int .i64 v :: .slice (some ⟨WZ.heap.size, 0, none⟩) 1 1 :: .agg (rowA 300 a) :: .pointer (some ⟨q, 0, none⟩) :: .agg (rowA 300 f) :: .int .i64 (K : Int) :: .slice (some ⟨w5.heap.size, 0, none⟩) 1 1 :: .agg (rowA 300 b) :: u9 75 :: u9 76 :: u9 77 :: u9 78 :: u9 79 :: u9 80 :: u9 81 :: u9 82 :: u9 83 :: u9 84 :: u9 85 :: undef :: undef :: undef :: undef :: undef :: undef :: undef :: undef :: undef :: undef :: undef :: undef :: undef :: undef :: undef :: undef :: undef :: undef :: undef :: undef :: undef :: undef :: undef :: undef :: undef :: undef :: undef :: undef :: undef :: undef :: undef :: undef :: undef :: undef :: undef :: undef :: undef :: undef :: undef :: undef :: undef :: undef :: undef :: undef :: undef :: undef :: undef :: undef :: undef :: undef :: undef :: undef :: undef :: undef :: undef :: undef :: undef :: []⟩, []⟩) (fun u => by kernel_rfl) ?_ ?_
  · refine wp_region_held (S := fun w' => ∃ g, Lw w q g [(B, 300, b, 29), (A, 300, a, 29), (w.heap.size, 300, f, 29)] w') (by kernel_rfl) ?_
    change wpAnyH _ _ _ _ _ _ _ _ (World.drew _)
    replace hs := hs.drew
    generalize World.drew w8 = W0 at *
    refine wpAnyH_take (i := 0) rfl (by kernel_rfl) (by kernel_rfl) (by kernel_rfl) (fun _ _ _ h => nomatch h.1) (yields_pure (v := .pointer (some ⟨q, 0, none⟩)) (by kernel_rfl) (fun _ => by kernel_rfl)) ⟨_, hs⟩ ?_
    refine wpAnyH_as (b := act9 w.heap.size q A B WZ.heap.size w5.heap.size f0 f a b K I J v undef (.pointer (some ⟨q, 0, none⟩)) undef undef undef undef undef undef undef undef undef undef) (by kernel_rfl) ?_
    refine wpAnyH_take (i := 1) rfl (by kernel_rfl) (by kernel_rfl) (by kernel_rfl) (fun _ _ _ h => nomatch h.1) (yields_row 29 (.tmp 12) (A) 300 (a) 29 _ (by kernel_rfl) rfl (by kernel_rfl) (fun _ ⟨_, s⟩ => s.get (.tail _ (.head _))) Try.underlying29 rfl covSize) ⟨_, hs⟩ ?_
    refine wpAnyH_as (b := act9 w.heap.size q A B WZ.heap.size w5.heap.size f0 f a b K I J v undef (.pointer (some ⟨q, 0, none⟩)) (.agg (rowA 300 (a))) undef undef undef undef undef undef undef undef undef) (by kernel_rfl) ?_
    refine wpAnyH_take (i := 2) rfl (by kernel_rfl) (by kernel_rfl) (by kernel_rfl) (fun _ _ _ h => nomatch h.1) (yields_pure (v := .int .i64 (I : Int)) (by kernel_rfl) (fun _ => by kernel_rfl)) ⟨_, hs⟩ ?_
    refine wpAnyH_as (b := act9 w.heap.size q A B WZ.heap.size w5.heap.size f0 f a b K I J v undef (.pointer (some ⟨q, 0, none⟩)) (.agg (rowA 300 (a))) (.int .i64 (I : Int)) undef undef undef undef undef undef undef undef) (by kernel_rfl) ?_
    refine wpAnyH_take (i := 3) rfl (by kernel_rfl) (by kernel_rfl) (by kernel_rfl) (fun _ _ _ h => nomatch h.1) (yields_pure (v := .int .i64 (J : Int)) (by kernel_rfl) (fun _ => by kernel_rfl)) ⟨_, hs⟩ ?_
    refine wpAnyH_as (b := act9 w.heap.size q A B WZ.heap.size w5.heap.size f0 f a b K I J v undef (.pointer (some ⟨q, 0, none⟩)) (.agg (rowA 300 (a))) (.int .i64 (I : Int)) (.int .i64 (J : Int)) undef undef undef undef undef undef undef) (by kernel_rfl) ?_
    refine wpAnyH_take (i := 5) rfl (by kernel_rfl) (by kernel_rfl) (by kernel_rfl) (fun _ _ _ h => nomatch h.1) (yields_pure (v := .pointer (some ⟨q, 0, none⟩)) (by kernel_rfl) (fun _ => by kernel_rfl)) ⟨_, hs⟩ ?_
    refine wpAnyH_as (b := act9 w.heap.size q A B WZ.heap.size w5.heap.size f0 f a b K I J v undef (.pointer (some ⟨q, 0, none⟩)) (.agg (rowA 300 (a))) (.int .i64 (I : Int)) (.int .i64 (J : Int)) undef (.pointer (some ⟨q, 0, none⟩)) undef undef undef undef undef) (by kernel_rfl) ?_
    refine wpAnyH_take (i := 6) rfl (by kernel_rfl) (by kernel_rfl) (by kernel_rfl) (fun _ _ _ h => nomatch h.1) (yields_row 29 (.tmp 5) (w.heap.size) 300 (f) 29 _ (by kernel_rfl) rfl (by kernel_rfl) (fun _ ⟨_, s⟩ => s.get (.tail _ (.tail _ (.head _)))) Try.underlying29 rfl covSize) ⟨_, hs⟩ ?_
    refine wpAnyH_as (b := act9 w.heap.size q A B WZ.heap.size w5.heap.size f0 f a b K I J v undef (.pointer (some ⟨q, 0, none⟩)) (.agg (rowA 300 (a))) (.int .i64 (I : Int)) (.int .i64 (J : Int)) undef (.pointer (some ⟨q, 0, none⟩)) (.agg (rowA 300 (f))) undef undef undef undef) (by kernel_rfl) ?_
    refine wpAnyH_take (i := 7) rfl (by kernel_rfl) (by kernel_rfl) (by kernel_rfl) (fun _ _ _ h => nomatch h.1) (yields_pure (v := .int .i64 (I : Int)) (by kernel_rfl) (fun _ => by kernel_rfl)) ⟨_, hs⟩ ?_
    refine wpAnyH_as (b := act9 w.heap.size q A B WZ.heap.size w5.heap.size f0 f a b K I J v undef (.pointer (some ⟨q, 0, none⟩)) (.agg (rowA 300 (a))) (.int .i64 (I : Int)) (.int .i64 (J : Int)) undef (.pointer (some ⟨q, 0, none⟩)) (.agg (rowA 300 (f))) (.int .i64 (I : Int)) undef undef undef) (by kernel_rfl) ?_
    refine wpAnyH_take (i := 8) rfl (by kernel_rfl) (by kernel_rfl) (by kernel_rfl) (fun _ _ _ h => nomatch h.1) (yields_pure (v := .int .i64 (J : Int)) (by kernel_rfl) (fun _ => by kernel_rfl)) ⟨_, hs⟩ ?_
    refine wpAnyH_as (b := act9 w.heap.size q A B WZ.heap.size w5.heap.size f0 f a b K I J v undef (.pointer (some ⟨q, 0, none⟩)) (.agg (rowA 300 (a))) (.int .i64 (I : Int)) (.int .i64 (J : Int)) undef (.pointer (some ⟨q, 0, none⟩)) (.agg (rowA 300 (f))) (.int .i64 (I : Int)) (.int .i64 (J : Int)) undef undef) (by kernel_rfl) ?_
    refine wpAnyH_all (rs := [4]) (by kernel_rfl) (by simp) ?_
    intro i hi
    obtain rfl : i = 4 := by simpa using hi
    refine wpOp_call (by kernel_rfl) (by kernel_rfl) (by kernel_rfl) (hca _ _ hs.fl) ?_
    intro W1 k
    replace hs := hs.flag k
    clear k
    refine ⟨⟨_, hs⟩, ?_⟩
    refine wpAnyH_as (b := act9 w.heap.size q A B WZ.heap.size w5.heap.size f0 f a b K I J v undef (.pointer (some ⟨q, 0, none⟩)) (.agg (rowA 300 (a))) (.int .i64 (I : Int)) (.int .i64 (J : Int)) (.int .i64 xa) (.pointer (some ⟨q, 0, none⟩)) (.agg (rowA 300 (f))) (.int .i64 (I : Int)) (.int .i64 (J : Int)) undef undef) (by kernel_rfl) ?_
    refine wpAnyH_all (rs := [9]) (by kernel_rfl) (by simp) ?_
    intro i hi
    obtain rfl : i = 9 := by simpa using hi
    refine wpOp_call (by kernel_rfl) (by kernel_rfl) (by kernel_rfl) (hcx _ _ hs.fl) ?_
    intro W2 k
    replace hs := hs.flag k
    clear k
    refine ⟨⟨_, hs⟩, ?_⟩
    refine wpAnyH_as (b := act9 w.heap.size q A B WZ.heap.size w5.heap.size f0 f a b K I J v undef (.pointer (some ⟨q, 0, none⟩)) (.agg (rowA 300 (a))) (.int .i64 (I : Int)) (.int .i64 (J : Int)) (.int .i64 xa) (.pointer (some ⟨q, 0, none⟩)) (.agg (rowA 300 (f))) (.int .i64 (I : Int)) (.int .i64 (J : Int)) (.int .i64 x) undef) (by kernel_rfl) ?_
    refine wpAnyH_take (i := 10) rfl (by kernel_rfl) (by kernel_rfl) (by kernel_rfl) (fun _ _ _ h => nomatch h.1) (yields_pure (v := .int .i64 (IntKind.i64.wrap (xa - x))) (by kernel_rfl) (fun _ => by kernel_rfl)) ⟨_, hs⟩ ?_
    refine wpAnyH_as (b := act9 w.heap.size q A B WZ.heap.size w5.heap.size f0 f a b K I J v undef (.pointer (some ⟨q, 0, none⟩)) (.agg (rowA 300 (a))) (.int .i64 (I : Int)) (.int .i64 (J : Int)) (.int .i64 xa) (.pointer (some ⟨q, 0, none⟩)) (.agg (rowA 300 (f))) (.int .i64 (I : Int)) (.int .i64 (J : Int)) (.int .i64 x) (.int .i64 (IntKind.i64.wrap (xa - x)))) (by kernel_rfl) ?_
    refine wpAnyH_take (i := 11) rfl (by kernel_rfl) (by kernel_rfl) (by kernel_rfl) (fun _ _ _ h => nomatch h.1) (yields_pure (v := .int .i64 (IntKind.i64.wrap (xa - x))) (by kernel_rfl) (fun _ => by kernel_rfl)) ⟨_, hs⟩ ?_
    refine wpAnyH_as (b := act9 w.heap.size q A B WZ.heap.size w5.heap.size f0 f a b K I J v (.int .i64 (IntKind.i64.wrap (xa - x))) (.pointer (some ⟨q, 0, none⟩)) (.agg (rowA 300 (a))) (.int .i64 (I : Int)) (.int .i64 (J : Int)) (.int .i64 xa) (.pointer (some ⟨q, 0, none⟩)) (.agg (rowA 300 (f))) (.int .i64 (I : Int)) (.int .i64 (J : Int)) (.int .i64 x) (.int .i64 (IntKind.i64.wrap (xa - x)))) (by kernel_rfl) ?_
    refine wpAnyH_done (by kernel_rfl) ?_ _
    exact ⟨rfl, by kernel_rfl, by kernel_rfl, hs⟩
  rintro wn9 u9 ⟨hu9, hs⟩
  rw [hu9]
  go_upto_region 10 with (fail)
  refine wp_join [15, 86, 87, 88, 89, 90, 91, 92, 93, 94, 95, 96] (fun w' u => u 15 = .int .i64 (IntKind.i64.wrap (xb - x)) ∧ Lw w q false [(B, 300, b, 29), (A, 300, a, 29), (w.heap.size, 300, f, 29)] w')
    (fun u10 => ⟨⟨.agg (rowA 300 f0) :: .int .i64 (K : Int) :: .int .i64 (I : Int) :: .int .i64 (J : Int) :: .int .i64 v :: .pointer (some ⟨w.heap.size, 0, none⟩) :: undef :: undef :: undef :: undef :: .bool false :: .pointer (some ⟨q, 0, none⟩) :: .pointer (some ⟨A, 0, none⟩) :: .pointer (some ⟨B, 0, none⟩) :: .int .i64 (IntKind.i64.wrap (xa - x)) :: u10 15 :: undef :: undef :: .bool true :: .bool false :: .int .i64 (K : Int) :: .bool (decide ((K : Int) < 0)) :: .bool (decide ((K : Int) < 0)) :: .int .i64 (K : Int) :: .bool (decide (23 < (K : Int))) :: .bool (decide ((K : Int) < 0) || decide (23 < (K : Int))) :: .bool (decide ((K : Int) < 0) || decide (23 < (K : Int))) :: .int .i64 (I : Int) :: .bool (decide ((I : Int) < 0)) :: .bool (decide ((K : Int) < 0) || decide (23 < (K : Int)) || decide ((I : Int) < 0)) :: .bool (decide ((K : Int) < 0) || decide (23 < (K : Int)) || decide ((I : Int) < 0)) :: .int .i64 (I : Int) :: .bool (decide (23 < (I : Int))) :: .bool (decide ((K : Int) < 0) || decide (23 < (K : Int)) || decide ((I : Int) < 0) || decide (23 < (I : Int))) :: .bool (decide ((K : Int) < 0) || decide (23 < (K : Int)) || decide ((I : Int) < 0) || decide (23 < (I : Int))) :: .int .i64 (J : Int) :: .bool (decide ((J : Int) < 0)) :: .bool (decide ((K : Int) < 0) || decide (23 < (K : Int)) || decide ((I : Int) < 0) || decide (23 < (I : Int)) || decide ((J : Int) < 0)) :: .bool (decide ((K : Int) < 0) || decide (23 < (K : Int)) || decide ((I : Int) < 0) || decide (23 < (I : Int)) || decide ((J : Int) < 0)) :: .int .i64 (J : Int) :: .bool (decide (23 < (J : Int))) :: .bool (decide ((K : Int) < 0) || decide (23 < (K : Int)) || decide ((I : Int) < 0) || decide (23 < (I : Int)) || decide ((J : Int) < 0) || decide (23 < (J : Int))) :: .bool (decide ((K : Int) < 0) || decide (23 < (K : Int)) || decide ((I : Int) < 0) || decide (23 < (I : Int)) || decide ((J : Int) < 0) || decide (23 < (J : Int))) :: .int .i64 (I : Int) :: .int .i64 (K : Int) :: .bool false :: .bool (decide ((K : Int) < 0) || decide (23 < (K : Int)) || decide ((I : Int) < 0) || decide (23 < (I : Int)) || decide ((J : Int) < 0) || decide (23 < (J : Int))) :: .bool (decide ((K : Int) < 0) || decide (23 < (K : Int)) || decide ((I : Int) < 0) || decide (23 < (I : Int)) || decide ((J : Int) < 0) || decide (23 < (J : Int))) :: .int .i64 (J : Int) :: .int .i64 (K : Int) :: .bool false :: .bool (decide ((K : Int) < 0) || decide (23 < (K : Int)) || decide ((I : Int) < 0) || decide (23 < (I : Int)) || decide ((J : Int) < 0) || decide (23 < (J : Int))) :: .bool (decide ((K : Int) < 0) || decide (23 < (K : Int)) || decide ((I : Int) < 0) || decide (23 < (I : Int)) || decide ((J : Int) < 0) || decide (23 < (J : Int))) :: .int .i64 v :: .bool (decide (v < 1)) :: .bool (decide ((K : Int) < 0) || decide (23 < (K : Int)) || decide ((I : Int) < 0) || decide (23 < (I : Int)) || decide ((J : Int) < 0) || decide (23 < (J : Int)) || decide (v < 1)) :: .bool (decide ((K : Int) < 0) || decide (23 < (K : Int)) || decide ((I : Int) < 0) || decide (23 < (I : Int)) || decide ((J : Int) < 0) || decide (23 < (J : Int)) || decide (v < 1)) :: .int .i64 v :: .bool (decide (17592186044416 < v)) :: .bool (decide ((K : Int) < 0) || decide (23 < (K : Int)) || decide ((I : Int) < 0) || decide (23 < (I : Int)) || decide ((J : Int) < 0) || decide (23 < (J : Int)) || decide (v < 1) || decide (17592186044416 < v)) :: .agg (rowA 300 f0) :: .agg (rowA 300 f) :: .agg #[.bool false] :: .pointer (some ⟨q, 0, none⟩) :: .pointer (some ⟨q, 0, none⟩) :: .agg (rowA 300 f) :: .int .i64 (K : Int) :: .int .i64 v :: .slice (some ⟨WZ.heap.size, 0, none⟩) 1 1 :: .agg (rowA 300 a) :: .pointer (some ⟨q, 0, none⟩) :: .agg (rowA 300 f) :: .int .i64 (K : Int) :: .slice (some ⟨w5.heap.size, 0, none⟩) 1 1 :: .agg (rowA 300 b) :: u9 75 :: u9 76 :: u9 77 :: u9 78 :: u9 79 :: u9 80 :: u9 81 :: u9 82 :: u9 83 :: u9 84 :: u9 85 :: u10 86 :: u10 87 :: u10 88 :: u10 89 :: u10 90 :: u10 91 :: u10 92 :: u10 93 :: u10 94 :: u10 95 :: u10 96 :: undef :: undef :: undef :: undef :: undef :: undef :: undef :: undef :: undef :: undef :: undef :: undef :: undef :: undef :: undef :: undef :: undef :: undef :: undef :: undef :: undef :: undef :: undef :: undef :: undef :: undef :: undef :: undef :: undef :: undef :: undef :: undef :: undef :: undef :: undef :: undef :: undef :: undef :: undef :: undef :: undef :: undef :: undef :: undef :: undef :: undef :: []⟩, []⟩) (fun u => by kernel_rfl) ?_ ?_
  · refine wp_region_held (S := fun w' => ∃ g, Lw w q g [(B, 300, b, 29), (A, 300, a, 29), (w.heap.size, 300, f, 29)] w') (by kernel_rfl) ?_
    change wpAnyH _ _ _ _ _ _ _ _ (World.drew _)
    replace hs := hs.drew
    generalize World.drew wn9 = W0 at *
    refine wpAnyH_take (i := 0) rfl (by kernel_rfl) (by kernel_rfl) (by kernel_rfl) (fun _ _ _ h => nomatch h.1) (yields_pure (v := .pointer (some ⟨q, 0, none⟩)) (by kernel_rfl) (fun _ => by kernel_rfl)) ⟨_, hs⟩ ?_
    refine wpAnyH_as (b := act10 w.heap.size q A B WZ.heap.size w5.heap.size f0 f a b K I J v x xa (u9 75) (u9 76) (u9 77) (u9 78) (u9 79) (u9 80) (u9 81) (u9 82) (u9 83) (u9 84) (u9 85) undef (.pointer (some ⟨q, 0, none⟩)) undef undef undef undef undef undef undef undef undef undef) (by kernel_rfl) ?_
    refine wpAnyH_take (i := 1) rfl (by kernel_rfl) (by kernel_rfl) (by kernel_rfl) (fun _ _ _ h => nomatch h.1) (yields_row 29 (.tmp 13) (B) 300 (b) 29 _ (by kernel_rfl) rfl (by kernel_rfl) (fun _ ⟨_, s⟩ => s.get (.head _)) Try.underlying29 rfl covSize) ⟨_, hs⟩ ?_
    refine wpAnyH_as (b := act10 w.heap.size q A B WZ.heap.size w5.heap.size f0 f a b K I J v x xa (u9 75) (u9 76) (u9 77) (u9 78) (u9 79) (u9 80) (u9 81) (u9 82) (u9 83) (u9 84) (u9 85) undef (.pointer (some ⟨q, 0, none⟩)) (.agg (rowA 300 (b))) undef undef undef undef undef undef undef undef undef) (by kernel_rfl) ?_
    refine wpAnyH_take (i := 2) rfl (by kernel_rfl) (by kernel_rfl) (by kernel_rfl) (fun _ _ _ h => nomatch h.1) (yields_pure (v := .int .i64 (I : Int)) (by kernel_rfl) (fun _ => by kernel_rfl)) ⟨_, hs⟩ ?_
    refine wpAnyH_as (b := act10 w.heap.size q A B WZ.heap.size w5.heap.size f0 f a b K I J v x xa (u9 75) (u9 76) (u9 77) (u9 78) (u9 79) (u9 80) (u9 81) (u9 82) (u9 83) (u9 84) (u9 85) undef (.pointer (some ⟨q, 0, none⟩)) (.agg (rowA 300 (b))) (.int .i64 (I : Int)) undef undef undef undef undef undef undef undef) (by kernel_rfl) ?_
    refine wpAnyH_take (i := 3) rfl (by kernel_rfl) (by kernel_rfl) (by kernel_rfl) (fun _ _ _ h => nomatch h.1) (yields_pure (v := .int .i64 (J : Int)) (by kernel_rfl) (fun _ => by kernel_rfl)) ⟨_, hs⟩ ?_
    refine wpAnyH_as (b := act10 w.heap.size q A B WZ.heap.size w5.heap.size f0 f a b K I J v x xa (u9 75) (u9 76) (u9 77) (u9 78) (u9 79) (u9 80) (u9 81) (u9 82) (u9 83) (u9 84) (u9 85) undef (.pointer (some ⟨q, 0, none⟩)) (.agg (rowA 300 (b))) (.int .i64 (I : Int)) (.int .i64 (J : Int)) undef undef undef undef undef undef undef) (by kernel_rfl) ?_
    refine wpAnyH_take (i := 5) rfl (by kernel_rfl) (by kernel_rfl) (by kernel_rfl) (fun _ _ _ h => nomatch h.1) (yields_pure (v := .pointer (some ⟨q, 0, none⟩)) (by kernel_rfl) (fun _ => by kernel_rfl)) ⟨_, hs⟩ ?_
    refine wpAnyH_as (b := act10 w.heap.size q A B WZ.heap.size w5.heap.size f0 f a b K I J v x xa (u9 75) (u9 76) (u9 77) (u9 78) (u9 79) (u9 80) (u9 81) (u9 82) (u9 83) (u9 84) (u9 85) undef (.pointer (some ⟨q, 0, none⟩)) (.agg (rowA 300 (b))) (.int .i64 (I : Int)) (.int .i64 (J : Int)) undef (.pointer (some ⟨q, 0, none⟩)) undef undef undef undef undef) (by kernel_rfl) ?_
    refine wpAnyH_take (i := 6) rfl (by kernel_rfl) (by kernel_rfl) (by kernel_rfl) (fun _ _ _ h => nomatch h.1) (yields_row 29 (.tmp 5) (w.heap.size) 300 (f) 29 _ (by kernel_rfl) rfl (by kernel_rfl) (fun _ ⟨_, s⟩ => s.get (.tail _ (.tail _ (.head _)))) Try.underlying29 rfl covSize) ⟨_, hs⟩ ?_
    refine wpAnyH_as (b := act10 w.heap.size q A B WZ.heap.size w5.heap.size f0 f a b K I J v x xa (u9 75) (u9 76) (u9 77) (u9 78) (u9 79) (u9 80) (u9 81) (u9 82) (u9 83) (u9 84) (u9 85) undef (.pointer (some ⟨q, 0, none⟩)) (.agg (rowA 300 (b))) (.int .i64 (I : Int)) (.int .i64 (J : Int)) undef (.pointer (some ⟨q, 0, none⟩)) (.agg (rowA 300 (f))) undef undef undef undef) (by kernel_rfl) ?_
    refine wpAnyH_take (i := 7) rfl (by kernel_rfl) (by kernel_rfl) (by kernel_rfl) (fun _ _ _ h => nomatch h.1) (yields_pure (v := .int .i64 (I : Int)) (by kernel_rfl) (fun _ => by kernel_rfl)) ⟨_, hs⟩ ?_
    refine wpAnyH_as (b := act10 w.heap.size q A B WZ.heap.size w5.heap.size f0 f a b K I J v x xa (u9 75) (u9 76) (u9 77) (u9 78) (u9 79) (u9 80) (u9 81) (u9 82) (u9 83) (u9 84) (u9 85) undef (.pointer (some ⟨q, 0, none⟩)) (.agg (rowA 300 (b))) (.int .i64 (I : Int)) (.int .i64 (J : Int)) undef (.pointer (some ⟨q, 0, none⟩)) (.agg (rowA 300 (f))) (.int .i64 (I : Int)) undef undef undef) (by kernel_rfl) ?_
    refine wpAnyH_take (i := 8) rfl (by kernel_rfl) (by kernel_rfl) (by kernel_rfl) (fun _ _ _ h => nomatch h.1) (yields_pure (v := .int .i64 (J : Int)) (by kernel_rfl) (fun _ => by kernel_rfl)) ⟨_, hs⟩ ?_
    refine wpAnyH_as (b := act10 w.heap.size q A B WZ.heap.size w5.heap.size f0 f a b K I J v x xa (u9 75) (u9 76) (u9 77) (u9 78) (u9 79) (u9 80) (u9 81) (u9 82) (u9 83) (u9 84) (u9 85) undef (.pointer (some ⟨q, 0, none⟩)) (.agg (rowA 300 (b))) (.int .i64 (I : Int)) (.int .i64 (J : Int)) undef (.pointer (some ⟨q, 0, none⟩)) (.agg (rowA 300 (f))) (.int .i64 (I : Int)) (.int .i64 (J : Int)) undef undef) (by kernel_rfl) ?_
    refine wpAnyH_all (rs := [4]) (by kernel_rfl) (by simp) ?_
    intro i hi
    obtain rfl : i = 4 := by simpa using hi
    refine wpOp_call (by kernel_rfl) (by kernel_rfl) (by kernel_rfl) (hcb _ _ hs.fl) ?_
    intro W1 k
    replace hs := hs.flag k
    clear k
    refine ⟨⟨_, hs⟩, ?_⟩
    refine wpAnyH_as (b := act10 w.heap.size q A B WZ.heap.size w5.heap.size f0 f a b K I J v x xa (u9 75) (u9 76) (u9 77) (u9 78) (u9 79) (u9 80) (u9 81) (u9 82) (u9 83) (u9 84) (u9 85) undef (.pointer (some ⟨q, 0, none⟩)) (.agg (rowA 300 (b))) (.int .i64 (I : Int)) (.int .i64 (J : Int)) (.int .i64 xb) (.pointer (some ⟨q, 0, none⟩)) (.agg (rowA 300 (f))) (.int .i64 (I : Int)) (.int .i64 (J : Int)) undef undef) (by kernel_rfl) ?_
    refine wpAnyH_all (rs := [9]) (by kernel_rfl) (by simp) ?_
    intro i hi
    obtain rfl : i = 9 := by simpa using hi
    refine wpOp_call (by kernel_rfl) (by kernel_rfl) (by kernel_rfl) (hcx _ _ hs.fl) ?_
    intro W2 k
    replace hs := hs.flag k
    clear k
    refine ⟨⟨_, hs⟩, ?_⟩
    refine wpAnyH_as (b := act10 w.heap.size q A B WZ.heap.size w5.heap.size f0 f a b K I J v x xa (u9 75) (u9 76) (u9 77) (u9 78) (u9 79) (u9 80) (u9 81) (u9 82) (u9 83) (u9 84) (u9 85) undef (.pointer (some ⟨q, 0, none⟩)) (.agg (rowA 300 (b))) (.int .i64 (I : Int)) (.int .i64 (J : Int)) (.int .i64 xb) (.pointer (some ⟨q, 0, none⟩)) (.agg (rowA 300 (f))) (.int .i64 (I : Int)) (.int .i64 (J : Int)) (.int .i64 x) undef) (by kernel_rfl) ?_
    refine wpAnyH_take (i := 10) rfl (by kernel_rfl) (by kernel_rfl) (by kernel_rfl) (fun _ _ _ h => nomatch h.1) (yields_pure (v := .int .i64 (IntKind.i64.wrap (xb - x))) (by kernel_rfl) (fun _ => by kernel_rfl)) ⟨_, hs⟩ ?_
    refine wpAnyH_as (b := act10 w.heap.size q A B WZ.heap.size w5.heap.size f0 f a b K I J v x xa (u9 75) (u9 76) (u9 77) (u9 78) (u9 79) (u9 80) (u9 81) (u9 82) (u9 83) (u9 84) (u9 85) undef (.pointer (some ⟨q, 0, none⟩)) (.agg (rowA 300 (b))) (.int .i64 (I : Int)) (.int .i64 (J : Int)) (.int .i64 xb) (.pointer (some ⟨q, 0, none⟩)) (.agg (rowA 300 (f))) (.int .i64 (I : Int)) (.int .i64 (J : Int)) (.int .i64 x) (.int .i64 (IntKind.i64.wrap (xb - x)))) (by kernel_rfl) ?_
    refine wpAnyH_take (i := 11) rfl (by kernel_rfl) (by kernel_rfl) (by kernel_rfl) (fun _ _ _ h => nomatch h.1) (yields_pure (v := .int .i64 (IntKind.i64.wrap (xb - x))) (by kernel_rfl) (fun _ => by kernel_rfl)) ⟨_, hs⟩ ?_
    refine wpAnyH_as (b := act10 w.heap.size q A B WZ.heap.size w5.heap.size f0 f a b K I J v x xa (u9 75) (u9 76) (u9 77) (u9 78) (u9 79) (u9 80) (u9 81) (u9 82) (u9 83) (u9 84) (u9 85) (.int .i64 (IntKind.i64.wrap (xb - x))) (.pointer (some ⟨q, 0, none⟩)) (.agg (rowA 300 (b))) (.int .i64 (I : Int)) (.int .i64 (J : Int)) (.int .i64 xb) (.pointer (some ⟨q, 0, none⟩)) (.agg (rowA 300 (f))) (.int .i64 (I : Int)) (.int .i64 (J : Int)) (.int .i64 x) (.int .i64 (IntKind.i64.wrap (xb - x)))) (by kernel_rfl) ?_
    refine wpAnyH_done (by kernel_rfl) ?_ _
    exact ⟨rfl, by kernel_rfl, by kernel_rfl, hs⟩
  rintro wn10 u10 ⟨hu10, hs⟩
  rw [hu10]
  go_upto_region 11 with (fail)
  refine wp_join [16, 97, 98, 99, 100, 101, 102, 103, 104, 105, 106, 107] (fun w' u => u 16 = .int .i64 (IntKind.i64.wrap (y - y)) ∧ Lw w q false [(B, 300, b, 29), (A, 300, a, 29), (w.heap.size, 300, f, 29)] w')
    (fun u11 => ⟨⟨.agg (rowA 300 f0) :: .int .i64 (K : Int) :: .int .i64 (I : Int) :: .int .i64 (J : Int) :: .int .i64 v :: .pointer (some ⟨w.heap.size, 0, none⟩) :: undef :: undef :: undef :: undef :: .bool false :: .pointer (some ⟨q, 0, none⟩) :: .pointer (some ⟨A, 0, none⟩) :: .pointer (some ⟨B, 0, none⟩) :: .int .i64 (IntKind.i64.wrap (xa - x)) :: .int .i64 (IntKind.i64.wrap (xb - x)) :: u11 16 :: undef :: .bool true :: .bool false :: .int .i64 (K : Int) :: .bool (decide ((K : Int) < 0)) :: .bool (decide ((K : Int) < 0)) :: .int .i64 (K : Int) :: .bool (decide (23 < (K : Int))) :: .bool (decide ((K : Int) < 0) || decide (23 < (K : Int))) :: .bool (decide ((K : Int) < 0) || decide (23 < (K : Int))) :: .int .i64 (I : Int) :: .bool (decide ((I : Int) < 0)) :: .bool (decide ((K : Int) < 0) || decide (23 < (K : Int)) || decide ((I : Int) < 0)) :: .bool (decide ((K : Int) < 0) || decide (23 < (K : Int)) || decide ((I : Int) < 0)) :: .int .i64 (I : Int) :: .bool (decide (23 < (I : Int))) :: .bool (decide ((K : Int) < 0) || decide (23 < (K : Int)) || decide ((I : Int) < 0) || decide (23 < (I : Int))) :: .bool (decide ((K : Int) < 0) || decide (23 < (K : Int)) || decide ((I : Int) < 0) || decide (23 < (I : Int))) :: .int .i64 (J : Int) :: .bool (decide ((J : Int) < 0)) :: .bool (decide ((K : Int) < 0) || decide (23 < (K : Int)) || decide ((I : Int) < 0) || decide (23 < (I : Int)) || decide ((J : Int) < 0)) :: .bool (decide ((K : Int) < 0) || decide (23 < (K : Int)) || decide ((I : Int) < 0) || decide (23 < (I : Int)) || decide ((J : Int) < 0)) :: .int .i64 (J : Int) :: .bool (decide (23 < (J : Int))) :: .bool (decide ((K : Int) < 0) || decide (23 < (K : Int)) || decide ((I : Int) < 0) || decide (23 < (I : Int)) || decide ((J : Int) < 0) || decide (23 < (J : Int))) :: .bool (decide ((K : Int) < 0) || decide (23 < (K : Int)) || decide ((I : Int) < 0) || decide (23 < (I : Int)) || decide ((J : Int) < 0) || decide (23 < (J : Int))) :: .int .i64 (I : Int) :: .int .i64 (K : Int) :: .bool false :: .bool (decide ((K : Int) < 0) || decide (23 < (K : Int)) || decide ((I : Int) < 0) || decide (23 < (I : Int)) || decide ((J : Int) < 0) || decide (23 < (J : Int))) :: .bool (decide ((K : Int) < 0) || decide (23 < (K : Int)) || decide ((I : Int) < 0) || decide (23 < (I : Int)) || decide ((J : Int) < 0) || decide (23 < (J : Int))) :: .int .i64 (J : Int) :: .int .i64 (K : Int) :: .bool false :: .bool (decide ((K : Int) < 0) || decide (23 < (K : Int)) || decide ((I : Int) < 0) || decide (23 < (I : Int)) || decide ((J : Int) < 0) || decide (23 < (J : Int))) :: .bool (decide ((K : Int) < 0) || decide (23 < (K : Int)) || decide ((I : Int) < 0) || decide (23 < (I : Int)) || decide ((J : Int) < 0) || decide (23 < (J : Int))) :: .int .i64 v :: .bool (decide (v < 1)) :: .bool (decide ((K : Int) < 0) || decide (23 < (K : Int)) || decide ((I : Int) < 0) || decide (23 < (I : Int)) || decide ((J : Int) < 0) || decide (23 < (J : Int)) || decide (v < 1)) :: .bool (decide ((K : Int) < 0) || decide (23 < (K : Int)) || decide ((I : Int) < 0) || decide (23 < (I : Int)) || decide ((J : Int) < 0) || decide (23 < (J : Int)) || decide (v < 1)) :: .int .i64 v :: .bool (decide (17592186044416 < v)) :: .bool (decide ((K : Int) < 0) || decide (23 < (K : Int)) || decide ((I : Int) < 0) || decide (23 < (I : Int)) || decide ((J : Int) < 0) || decide (23 < (J : Int)) || decide (v < 1) || decide (17592186044416 < v)) :: .agg (rowA 300 f0) :: .agg (rowA 300 f) :: .agg #[.bool false] :: .pointer (some ⟨q, 0, none⟩) :: .pointer (some ⟨q, 0, none⟩) :: .agg (rowA 300 f) :: .int .i64 (K : Int) :: .int .i64 v :: .slice (some ⟨WZ.heap.size, 0, none⟩) 1 1 :: .agg (rowA 300 a) :: .pointer (some ⟨q, 0, none⟩) :: .agg (rowA 300 f) :: .int .i64 (K : Int) :: .slice (some ⟨w5.heap.size, 0, none⟩) 1 1 :: .agg (rowA 300 b) :: u9 75 :: u9 76 :: u9 77 :: u9 78 :: u9 79 :: u9 80 :: u9 81 :: u9 82 :: u9 83 :: u9 84 :: u9 85 :: u10 86 :: u10 87 :: u10 88 :: u10 89 :: u10 90 :: u10 91 :: u10 92 :: u10 93 :: u10 94 :: u10 95 :: u10 96 :: u11 97 :: u11 98 :: u11 99 :: u11 100 :: u11 101 :: u11 102 :: u11 103 :: u11 104 :: u11 105 :: u11 106 :: u11 107 :: undef :: undef :: undef :: undef :: undef :: undef :: undef :: undef :: undef :: undef :: undef :: undef :: undef :: undef :: undef :: undef :: undef :: undef :: undef :: undef :: undef :: undef :: undef :: undef :: undef :: undef :: undef :: undef :: undef :: undef :: undef :: undef :: undef :: undef :: undef :: []⟩, []⟩) (fun u => by kernel_rfl) ?_ ?_
  · refine wp_region_held (S := fun w' => ∃ g, Lw w q g [(B, 300, b, 29), (A, 300, a, 29), (w.heap.size, 300, f, 29)] w') (by kernel_rfl) ?_
    change wpAnyH _ _ _ _ _ _ _ _ (World.drew _)
    replace hs := hs.drew
    generalize World.drew wn10 = W0 at *
    refine wpAnyH_take (i := 0) rfl (by kernel_rfl) (by kernel_rfl) (by kernel_rfl) (fun _ _ _ h => nomatch h.1) (yields_pure (v := .pointer (some ⟨q, 0, none⟩)) (by kernel_rfl) (fun _ => by kernel_rfl)) ⟨_, hs⟩ ?_
    refine wpAnyH_as (b := act11 w.heap.size q A B WZ.heap.size w5.heap.size f0 f a b K I J v x xa xb (u9 75) (u9 76) (u9 77) (u9 78) (u9 79) (u9 80) (u9 81) (u9 82) (u9 83) (u9 84) (u9 85) (u10 86) (u10 87) (u10 88) (u10 89) (u10 90) (u10 91) (u10 92) (u10 93) (u10 94) (u10 95) (u10 96) undef (.pointer (some ⟨q, 0, none⟩)) undef undef undef undef undef undef undef undef undef undef) (by kernel_rfl) ?_
    refine wpAnyH_take (i := 1) rfl (by kernel_rfl) (by kernel_rfl) (by kernel_rfl) (fun _ _ _ h => nomatch h.1) (yields_row 29 (.tmp 13) (B) 300 (b) 29 _ (by kernel_rfl) rfl (by kernel_rfl) (fun _ ⟨_, s⟩ => s.get (.head _)) Try.underlying29 rfl covSize) ⟨_, hs⟩ ?_
    refine wpAnyH_as (b := act11 w.heap.size q A B WZ.heap.size w5.heap.size f0 f a b K I J v x xa xb (u9 75) (u9 76) (u9 77) (u9 78) (u9 79) (u9 80) (u9 81) (u9 82) (u9 83) (u9 84) (u9 85) (u10 86) (u10 87) (u10 88) (u10 89) (u10 90) (u10 91) (u10 92) (u10 93) (u10 94) (u10 95) (u10 96) undef (.pointer (some ⟨q, 0, none⟩)) (.agg (rowA 300 (b))) undef undef undef undef undef undef undef undef undef) (by kernel_rfl) ?_
    refine wpAnyH_take (i := 2) rfl (by kernel_rfl) (by kernel_rfl) (by kernel_rfl) (fun _ _ _ h => nomatch h.1) (yields_pure (v := .int .i64 (K : Int)) (by kernel_rfl) (fun _ => by kernel_rfl)) ⟨_, hs⟩ ?_
    refine wpAnyH_as (b := act11 w.heap.size q A B WZ.heap.size w5.heap.size f0 f a b K I J v x xa xb (u9 75) (u9 76) (u9 77) (u9 78) (u9 79) (u9 80) (u9 81) (u9 82) (u9 83) (u9 84) (u9 85) (u10 86) (u10 87) (u10 88) (u10 89) (u10 90) (u10 91) (u10 92) (u10 93) (u10 94) (u10 95) (u10 96) undef (.pointer (some ⟨q, 0, none⟩)) (.agg (rowA 300 (b))) (.int .i64 (K : Int)) undef undef undef undef undef undef undef undef) (by kernel_rfl) ?_
    refine wpAnyH_take (i := 3) rfl (by kernel_rfl) (by kernel_rfl) (by kernel_rfl) (fun _ _ _ h => nomatch h.1) (yields_pure (v := .int .i64 (K : Int)) (by kernel_rfl) (fun _ => by kernel_rfl)) ⟨_, hs⟩ ?_
    refine wpAnyH_as (b := act11 w.heap.size q A B WZ.heap.size w5.heap.size f0 f a b K I J v x xa xb (u9 75) (u9 76) (u9 77) (u9 78) (u9 79) (u9 80) (u9 81) (u9 82) (u9 83) (u9 84) (u9 85) (u10 86) (u10 87) (u10 88) (u10 89) (u10 90) (u10 91) (u10 92) (u10 93) (u10 94) (u10 95) (u10 96) undef (.pointer (some ⟨q, 0, none⟩)) (.agg (rowA 300 (b))) (.int .i64 (K : Int)) (.int .i64 (K : Int)) undef undef undef undef undef undef undef) (by kernel_rfl) ?_
    refine wpAnyH_take (i := 5) rfl (by kernel_rfl) (by kernel_rfl) (by kernel_rfl) (fun _ _ _ h => nomatch h.1) (yields_pure (v := .pointer (some ⟨q, 0, none⟩)) (by kernel_rfl) (fun _ => by kernel_rfl)) ⟨_, hs⟩ ?_
    refine wpAnyH_as (b := act11 w.heap.size q A B WZ.heap.size w5.heap.size f0 f a b K I J v x xa xb (u9 75) (u9 76) (u9 77) (u9 78) (u9 79) (u9 80) (u9 81) (u9 82) (u9 83) (u9 84) (u9 85) (u10 86) (u10 87) (u10 88) (u10 89) (u10 90) (u10 91) (u10 92) (u10 93) (u10 94) (u10 95) (u10 96) undef (.pointer (some ⟨q, 0, none⟩)) (.agg (rowA 300 (b))) (.int .i64 (K : Int)) (.int .i64 (K : Int)) undef (.pointer (some ⟨q, 0, none⟩)) undef undef undef undef undef) (by kernel_rfl) ?_
    refine wpAnyH_take (i := 6) rfl (by kernel_rfl) (by kernel_rfl) (by kernel_rfl) (fun _ _ _ h => nomatch h.1) (yields_row 29 (.tmp 5) (w.heap.size) 300 (f) 29 _ (by kernel_rfl) rfl (by kernel_rfl) (fun _ ⟨_, s⟩ => s.get (.tail _ (.tail _ (.head _)))) Try.underlying29 rfl covSize) ⟨_, hs⟩ ?_
    refine wpAnyH_as (b := act11 w.heap.size q A B WZ.heap.size w5.heap.size f0 f a b K I J v x xa xb (u9 75) (u9 76) (u9 77) (u9 78) (u9 79) (u9 80) (u9 81) (u9 82) (u9 83) (u9 84) (u9 85) (u10 86) (u10 87) (u10 88) (u10 89) (u10 90) (u10 91) (u10 92) (u10 93) (u10 94) (u10 95) (u10 96) undef (.pointer (some ⟨q, 0, none⟩)) (.agg (rowA 300 (b))) (.int .i64 (K : Int)) (.int .i64 (K : Int)) undef (.pointer (some ⟨q, 0, none⟩)) (.agg (rowA 300 (f))) undef undef undef undef) (by kernel_rfl) ?_
    refine wpAnyH_take (i := 7) rfl (by kernel_rfl) (by kernel_rfl) (by kernel_rfl) (fun _ _ _ h => nomatch h.1) (yields_pure (v := .int .i64 (K : Int)) (by kernel_rfl) (fun _ => by kernel_rfl)) ⟨_, hs⟩ ?_
    refine wpAnyH_as (b := act11 w.heap.size q A B WZ.heap.size w5.heap.size f0 f a b K I J v x xa xb (u9 75) (u9 76) (u9 77) (u9 78) (u9 79) (u9 80) (u9 81) (u9 82) (u9 83) (u9 84) (u9 85) (u10 86) (u10 87) (u10 88) (u10 89) (u10 90) (u10 91) (u10 92) (u10 93) (u10 94) (u10 95) (u10 96) undef (.pointer (some ⟨q, 0, none⟩)) (.agg (rowA 300 (b))) (.int .i64 (K : Int)) (.int .i64 (K : Int)) undef (.pointer (some ⟨q, 0, none⟩)) (.agg (rowA 300 (f))) (.int .i64 (K : Int)) undef undef undef) (by kernel_rfl) ?_
    refine wpAnyH_take (i := 8) rfl (by kernel_rfl) (by kernel_rfl) (by kernel_rfl) (fun _ _ _ h => nomatch h.1) (yields_pure (v := .int .i64 (K : Int)) (by kernel_rfl) (fun _ => by kernel_rfl)) ⟨_, hs⟩ ?_
    refine wpAnyH_as (b := act11 w.heap.size q A B WZ.heap.size w5.heap.size f0 f a b K I J v x xa xb (u9 75) (u9 76) (u9 77) (u9 78) (u9 79) (u9 80) (u9 81) (u9 82) (u9 83) (u9 84) (u9 85) (u10 86) (u10 87) (u10 88) (u10 89) (u10 90) (u10 91) (u10 92) (u10 93) (u10 94) (u10 95) (u10 96) undef (.pointer (some ⟨q, 0, none⟩)) (.agg (rowA 300 (b))) (.int .i64 (K : Int)) (.int .i64 (K : Int)) undef (.pointer (some ⟨q, 0, none⟩)) (.agg (rowA 300 (f))) (.int .i64 (K : Int)) (.int .i64 (K : Int)) undef undef) (by kernel_rfl) ?_
    refine wpAnyH_all (rs := [4]) (by kernel_rfl) (by simp) ?_
    intro i hi
    obtain rfl : i = 4 := by simpa using hi
    refine wpOp_call (by kernel_rfl) (by kernel_rfl) (by kernel_rfl) (hcz _ _ hs.fl) ?_
    intro W1 k
    replace hs := hs.flag k
    clear k
    refine ⟨⟨_, hs⟩, ?_⟩
    refine wpAnyH_as (b := act11 w.heap.size q A B WZ.heap.size w5.heap.size f0 f a b K I J v x xa xb (u9 75) (u9 76) (u9 77) (u9 78) (u9 79) (u9 80) (u9 81) (u9 82) (u9 83) (u9 84) (u9 85) (u10 86) (u10 87) (u10 88) (u10 89) (u10 90) (u10 91) (u10 92) (u10 93) (u10 94) (u10 95) (u10 96) undef (.pointer (some ⟨q, 0, none⟩)) (.agg (rowA 300 (b))) (.int .i64 (K : Int)) (.int .i64 (K : Int)) (.int .i64 y) (.pointer (some ⟨q, 0, none⟩)) (.agg (rowA 300 (f))) (.int .i64 (K : Int)) (.int .i64 (K : Int)) undef undef) (by kernel_rfl) ?_
    refine wpAnyH_all (rs := [9]) (by kernel_rfl) (by simp) ?_
    intro i hi
    obtain rfl : i = 9 := by simpa using hi
    refine wpOp_call (by kernel_rfl) (by kernel_rfl) (by kernel_rfl) (hcy _ _ hs.fl) ?_
    intro W2 k
    replace hs := hs.flag k
    clear k
    refine ⟨⟨_, hs⟩, ?_⟩
    refine wpAnyH_as (b := act11 w.heap.size q A B WZ.heap.size w5.heap.size f0 f a b K I J v x xa xb (u9 75) (u9 76) (u9 77) (u9 78) (u9 79) (u9 80) (u9 81) (u9 82) (u9 83) (u9 84) (u9 85) (u10 86) (u10 87) (u10 88) (u10 89) (u10 90) (u10 91) (u10 92) (u10 93) (u10 94) (u10 95) (u10 96) undef (.pointer (some ⟨q, 0, none⟩)) (.agg (rowA 300 (b))) (.int .i64 (K : Int)) (.int .i64 (K : Int)) (.int .i64 y) (.pointer (some ⟨q, 0, none⟩)) (.agg (rowA 300 (f))) (.int .i64 (K : Int)) (.int .i64 (K : Int)) (.int .i64 y) undef) (by kernel_rfl) ?_
    refine wpAnyH_take (i := 10) rfl (by kernel_rfl) (by kernel_rfl) (by kernel_rfl) (fun _ _ _ h => nomatch h.1) (yields_pure (v := .int .i64 (IntKind.i64.wrap (y - y))) (by kernel_rfl) (fun _ => by kernel_rfl)) ⟨_, hs⟩ ?_
    refine wpAnyH_as (b := act11 w.heap.size q A B WZ.heap.size w5.heap.size f0 f a b K I J v x xa xb (u9 75) (u9 76) (u9 77) (u9 78) (u9 79) (u9 80) (u9 81) (u9 82) (u9 83) (u9 84) (u9 85) (u10 86) (u10 87) (u10 88) (u10 89) (u10 90) (u10 91) (u10 92) (u10 93) (u10 94) (u10 95) (u10 96) undef (.pointer (some ⟨q, 0, none⟩)) (.agg (rowA 300 (b))) (.int .i64 (K : Int)) (.int .i64 (K : Int)) (.int .i64 y) (.pointer (some ⟨q, 0, none⟩)) (.agg (rowA 300 (f))) (.int .i64 (K : Int)) (.int .i64 (K : Int)) (.int .i64 y) (.int .i64 (IntKind.i64.wrap (y - y)))) (by kernel_rfl) ?_
    refine wpAnyH_take (i := 11) rfl (by kernel_rfl) (by kernel_rfl) (by kernel_rfl) (fun _ _ _ h => nomatch h.1) (yields_pure (v := .int .i64 (IntKind.i64.wrap (y - y))) (by kernel_rfl) (fun _ => by kernel_rfl)) ⟨_, hs⟩ ?_
    refine wpAnyH_as (b := act11 w.heap.size q A B WZ.heap.size w5.heap.size f0 f a b K I J v x xa xb (u9 75) (u9 76) (u9 77) (u9 78) (u9 79) (u9 80) (u9 81) (u9 82) (u9 83) (u9 84) (u9 85) (u10 86) (u10 87) (u10 88) (u10 89) (u10 90) (u10 91) (u10 92) (u10 93) (u10 94) (u10 95) (u10 96) (.int .i64 (IntKind.i64.wrap (y - y))) (.pointer (some ⟨q, 0, none⟩)) (.agg (rowA 300 (b))) (.int .i64 (K : Int)) (.int .i64 (K : Int)) (.int .i64 y) (.pointer (some ⟨q, 0, none⟩)) (.agg (rowA 300 (f))) (.int .i64 (K : Int)) (.int .i64 (K : Int)) (.int .i64 y) (.int .i64 (IntKind.i64.wrap (y - y)))) (by kernel_rfl) ?_
    refine wpAnyH_done (by kernel_rfl) ?_ _
    exact ⟨rfl, by kernel_rfl, by kernel_rfl, hs⟩
  rintro wn11 u11 ⟨hu11, hs⟩
  rw [hu11]
  go_upto_region 12 with (fail)
  rw [e1, e2, e3]
  clear e1 e2 e3 hcx hca hcb hcy hcz hx hxa hxb hy
  have g1 : xa - x ≤ 4294967296 := by omega
  have g2 : (-4294967296 : Int) ≤ xa - x := by omega
  have g3 : xb - x ≤ 4294967296 := by omega
  have g4 : (-4294967296 : Int) ≤ xb - x := by omega
  have hc := hs.fl.cell
  have hbe := hs.be
  generalize xa - x = dx at *
  generalize xb - x = dy at *
  clear a5 a6 b5 b6 hs a3 a4
  go_wp2_with fail
  go_ret
  exact ⟨rfl, hbe⟩
end Go.Proofs.Ytadeadpcpgfkbaa.blockOthers
