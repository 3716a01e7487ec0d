/- A row of noughts learns nothing: numbers; rows compared. -/
import Derived.Test.YtplffehgjdinnaaBieQ
namespace Go.Proofs.Ytplffehgjdinnaa
open Go.RowKit

theorem sumP_none {xs ys : Nat → Int} : ∀ {n : Nat}, (∀ k, k < n → xs k = 0) → sumP xs ys n = 0
  | 0, _ => rfl
  | n + 1, h => by rw [sumP, sumP_none (fun k hk => h k (by omega)), h n (by omega), satv_zero, Int.zero_mul]; rfl
theorem mulv_none (a : Int) : mulv a 0 = 0 := by unfold mulv; rw [satv_zero, Int.mul_zero, rnd_zero, satv_zero]
theorem mulv_none2 (a : Int) : mulv 0 a = 0 := by unfold mulv; rw [satv_zero, Int.zero_mul, rnd_zero, satv_zero]
theorem rnd44_zero : rnd 0 44 = 0 := by decide
theorem mul4v_none (a : Int) : mul4v a 0 = 0 := by unfold mul4v; rw [satv_zero, Int.mul_zero, rnd44_zero, satv_zero]
theorem mul4v_none2 (a : Int) : mul4v 0 a = 0 := by unfold mul4v; rw [satv_zero, Int.zero_mul, rnd44_zero, satv_zero]
theorem quo4v_none {a : Int} (h : 1 ≤ a ∧ a ≤ 1152921504606846976) : quo4v 0 a = 0 := by
  unfold quo4v divv
  rw [satv_zero, Int.zero_mul, (satv_in (show -1152921504606846976 ≤ a by omega) h.2).1, if_neg (by omega), divZ_zero (by omega), satv_zero]
theorem quov_none {a : Int} (h : 1 ≤ a ∧ a ≤ 1152921504606846976) : quov 0 a = 0 := by
  unfold quov divv
  rw [satv_zero, Int.zero_mul, (satv_in (show -1152921504606846976 ≤ a by omega) h.2).1, if_neg (by omega), divZ_zero (by omega), satv_zero]
theorem upd_id (f : Nat → Int) {k : Nat} {v : Int} (h : f k = v) : upd f k v = f := by
  funext q; unfold upd
  split
  · rename_i e; rw [e, h]
  · rfl
/-- Factors of which nothing is seen stay. -/
theorem nexO_same (c b : Nat → Int) (x : Int) {j : Nat} (hj : j < 24) (hc : ∀ k, -1152921504606846976 ≤ c k ∧ c k ≤ 1152921504606846976) (h : ∀ t, t < j → mul4v (b t) x = 0) : ∀ t, t ≤ j → nexO c b c x j t = c
  | 0, _ => rfl
  | t + 1, ht => by
    rw [nexO, nexO_same c b x hj hc h t (by omega), h t (by omega)]
    have e : colU c j t = c (plc t j).toNat := by unfold colU; rw [uF_in (by omega) (by omega) (by omega)]
    exact upd_id _ (by rw [e, addv_zero (hc _)])
section
variable (p : Nat → Int) (r : Int)
theorem none_F (j : Nat) : bF (condF p) (satH fun _ => 0) j = 0 := by
  unfold bF dotv
  rw [sumP_none (fun k _ => by show satv 0 = 0; exact satv_zero), rnd_zero, satv_zero]
theorem none_V (j : Nat) : bV (condF p) (satH fun _ => 0) j = 0 := by unfold bV; rw [none_F, mulv_none]
theorem none_A : ∀ j, bA (condF p) (satH fun _ => 0) (rV r) j = rV r
  | 0 => rfl
  | j + 1 => by rw [bA, none_A j, none_F, mulv_none2, addv_zero (by have := rV_bd r; omega)]
theorem none_B {v : Nat → Int} (hv : ∀ j, v j = 0) (c : Nat → Int) : ∀ n k, lrB c v n k = 0
  | 0, _ => rfl
  | n + 1, k => by
    rw [lrB]
    have hu : ∀ k, upd (lrB c v n) n (v n) k = 0 := fun k => by
      unfold upd
      split
      · exact hv n
      · exact none_B hv c n k
    unfold nexB
    split
    · rw [hu, hv, mulv_none]; rfl
    · exact hu k
theorem none_O : ∀ n, n ≤ 24 → lrO (condF p) (bF (condF p) (satH fun _ => 0)) (bV (condF p) (satH fun _ => 0)) (bA (condF p) (satH fun _ => 0) (rV r)) n = condF p
  | 0, _ => rfl
  | n + 1, hn => by
    have hr := rV_bd r
    have hd := condD_bd p (j := n)
    rw [lrO, none_O n (by omega), upd_id (condF p) (k := 276 + n) (by
      unfold bD
      rw [none_A, none_A, mdv_same (by omega) (by omega), clamp_id hd])]
    refine nexO_same _ _ _ (by omega) (condF_bd p) (fun t ht => ?_) n (Nat.le_refl _)
    unfold bX
    rw [none_F, none_A, quo4v_none (by omega)]
    exact mul4v_none _
theorem updF_none : updF p (fun _ => 0) r = condF p := none_O p r 24 (Nat.le_refl _)
theorem updS_none : updS p (fun _ => 0) r = rV r := none_A p r 24
theorem updK_none : updK p (fun _ => 0) r = fun _ => 0 := by
  funext k
  unfold updK updB
  rw [none_B (none_V p), updS_none, quov_none (by have := rV_bd r; omega)]
theorem upd_none (q o : Nat) (g : Bool) (w : World) (fl : Fl q o g w) :
    Calls Try.prog 88 #[.pointer (some ⟨q, o, none⟩), .agg (rowA 300 p), .agg (rowA 24 fun _ => 0), .int .i64 r] w fun e w' => e = .returned (.tuple #[.agg (rowA 300 (condF p)), .agg (rowA 24 fun _ => 0), .int .i64 (rV r)]) ∧ FlW q o (g || updH p (fun _ => 0) r) w w' := by
  have := upd_any q o p (fun _ => 0) r g w fl
  rwa [updF_none, updK_none, updS_none] at this
theorem inn_none (q o : Nat) (g : Bool) (w : World) (fl : Fl q o g w) :
    Calls Try.prog 91 #[.pointer (some ⟨q, o, none⟩), .agg (rowA 300 p), .agg (rowA 24 fun _ => 0), .int .i64 r] w fun e w' => e = .returned (.int .i64 (rV r)) ∧ FlW q o (g || innH p (fun _ => 0) r) w w' := by
  have := inn_any q o p (fun _ => 0) r g w fl
  rwa [updS_none] at this
end
/-- A row's type behind a name, with what compares rows. -/
structure OpE (t T : TypeId) (n N : Nat) : Prop where
  is : t = T
  agg : ∀ w, Sem.run Try.prog (isAgg T) w = .ok true w
  size : ∀ w, Sem.run Try.prog (sizeOf T) w = .ok N w
  load : ∀ w b f t', Blk w b (rowA n f) t' → Sem.run Try.prog (loadCellsFrom ⟨b, 0, none⟩ 0 N #[]) w = .ok (rowA n f) w
  guard : ∀ f g op x y w, Sem.run Try.prog (eqGuard op T x y (.agg (rowA n f)) (.agg (rowA n g))) w = .ok () w
  eql : ∀ f g w, Sem.run Try.prog (binOp .eql T (.agg (rowA n f)) (.agg (rowA n g))) w = .ok (.bool (eqB n f g)) w
  neq : ∀ f g w, Sem.run Try.prog (binOp .neq T (.agg (rowA n f)) (.agg (rowA n g))) w = .ok (.bool (!eqB n f g)) w
  eqv : ∀ f g w, Sem.run Try.prog (Op.equal T (.agg (rowA n f)) (.agg (rowA n g))) w = .ok (eqB n f g) w
theorem ope {t : TypeId} {n : Nat} (h1 : ∀ w, Sem.run Try.prog (isAgg t) w = .ok true w) (h2 : ∀ w, Sem.run Try.prog (sizeOf t) w = .ok n w) (hf : SX.flatOk Try.prog t = some (List.replicate n true)) : ∃ T N, OpE t T n N :=
  ⟨_, n, rfl, h1, h2, fun _ _ _ _ h => load_row_from _ h, fun f g op x y w => guard_row hf f g w op x y, fun f g w => eql_row hf f g w, fun f g w => neq_row hf f g w, fun f g w => equal_row hf f g w⟩
theorem opeCov : ∃ T N, OpE 79 T 300 N := ope (fun w => by kernel_rfl) (fun w => by kernel_rfl) (by kernel_rfl)
theorem opeRow : ∃ T N, OpE 100 T 24 N := ope (fun w => by kernel_rfl) (fun w => by kernel_rfl) (by kernel_rfl)
theorem zero_row (w : World) : Sem.run Try.prog (zeroValue 100) w = .ok (.agg (rowA 24 fun _ => 0)) w := by kernel_rfl
theorem under_row (w : World) : Sem.run Try.prog (underlying 100) w = .ok (.array 24 2) w := by kernel_rfl
end Go.Proofs.Ytplffehgjdinnaa
