/- Regions in any order that read whole rows, make memory and lay whole rows: their operations, one by one. Ways of a region joined. -/
import Derived.Test.YtdndomknjefgkaaDnD
import Derived.OrdersHeld
namespace Go.Proofs.Ytdndomknjefgkaa
open Go.RowKit

section
variable {P : Program} {ops : Array Oper} {Q : Exit → Act → World → Prop} {S : World → Prop} {o : Oper} {a : Act} {w : World} {K : Act → World → Prop}
theorem wpOp_do {i : Nat} (hi : ops[i]? = some o) (hw : Region.wanted o (yielded ops a.tmps) = true) (h : o.wp P a w K Q) : wpOp P ops Q i K a w := by
  unfold wpOp
  simp only [hi, hw, if_true]
  exact .inl h
theorem wpOp_at {i : Nat} (hi : Nat.ble (i + 1) ops.size = true) (hw : Region.wanted (ops[i]'(Nat.le_of_ble_eq_true hi)) (yielded ops a.tmps) = true) (h : (ops[i]'(Nat.le_of_ble_eq_true hi)).wp P a w K Q) : wpOp P ops Q i K a w :=
  wpOp_do (Array.getElem?_eq_getElem _) hw h
theorem op_call {f : FuncId} {args : Array Value} {v : Value} {R : World → Prop} (h : (execOp a.eval o).run P w = .ok (.enter f args) w) (hc : Calls P f args w fun e w' => e = .returned v ∧ R w') (hk : ∀ w', R w' → K (a.put o.dst v) w') : o.wp P a w K Q := by
  unfold Oper.wp
  rw [h, Oper.upon_enter]
  exact hc.mono fun e w' ⟨he, hr⟩ => by subst he; exact hk w' hr
theorem op_value {v : Value} {w' : World} (h : (execOp a.eval o).run P w = .ok (.value v) w') (hk : K (a.put o.dst v) w') : o.wp P a w K Q := by
  unfold Oper.wp
  rw [h]; exact hk
theorem op_store_row (ty : TypeId) (x y : Operand) (g n : Nat) (f f' : Nat → Int) (t : TypeId) (ho : o.op = .store ty x y) (hx : a.eval x = .pointer (some ⟨g, 0, none⟩)) (hy : a.eval y = .agg (rowA n f)) (hg : Blk w g (rowA n f') t) (hi : (P.info? ty).map (·.size) = some n)
    (h : K (a.put o.dst undef) (w.setRow g (rowA n f))) : o.wp P a w K Q :=
  wp_store_row ty x y ho g _ hx hy t _ hg (by rw [rowA_size]; exact hi) (by rw [rowA_size, rowA_size]) (rowA_one n f) h
theorem yields_row (ty : TypeId) (x : Operand) (g n : Nat) (f : Nat → Int) (t : TypeId) (d : TypeDesc) (hw : Region.wanted o (yielded ops a.tmps) = true) (ho : o.op = .load ty x)
    (hx : a.eval x = .pointer (some ⟨g, 0, none⟩)) (hS : ∀ w, S w → Blk w g (rowA n f) t)
    (hu : P.underlying ty = some d) (hd : (match d with | .struct _ | .array _ _ => true | _ => false) = true) (hi : (P.info? ty).map (·.size) = some n) : YieldsIf P ops S o (.agg (rowA n f)) a :=
  .inl ⟨hw, fun w hs => by
    unfold execOp
    simp only [ho, hx, Instr.loadAt, Instr.sureAddr, Sem.run_bind, Sem.run_pure, Result.andThen_ok, run_loadVar_row w g t ty (rowA n f) (0, 0) d (hS w hs) hu hd (by rw [rowA_size]; exact hi)]⟩
section
variable {i : Nat} (hi : Nat.ble (i + 1) ops.size = true) (hw : Region.wanted (ops[i]'(Nat.le_of_ble_eq_true hi)) (yielded ops a.tmps) = true)
include hw
theorem wpOp_call {f : FuncId} {args : Array Value} {v : Value} {R : World → Prop} (h : (execOp a.eval (ops[i]'(Nat.le_of_ble_eq_true hi))).run P w = .ok (.enter f args) w) (hc : Calls P f args w fun e w' => e = .returned v ∧ R w')
    (hk : ∀ w', R w' → K (a.put (ops[i]'(Nat.le_of_ble_eq_true hi)).dst v) w') : wpOp P ops Q i K a w := wpOp_at hi hw (op_call h hc hk)
theorem wpOp_value {v : Value} {w' : World} (h : (execOp a.eval (ops[i]'(Nat.le_of_ble_eq_true hi))).run P w = .ok (.value v) w') (hk : K (a.put (ops[i]'(Nat.le_of_ble_eq_true hi)).dst v) w') : wpOp P ops Q i K a w := wpOp_at hi hw (op_value h hk)
theorem wpOp_store (ty : TypeId) (x y : Operand) (g n : Nat) (f f' : Nat → Int) (t : TypeId) (ho : (ops[i]'(Nat.le_of_ble_eq_true hi)).op = .store ty x y) (hx : a.eval x = .pointer (some ⟨g, 0, none⟩)) (hy : a.eval y = .agg (rowA n f)) (hg : Blk w g (rowA n f') t) (hi' : (P.info? ty).map (·.size) = some n)
    (h : K (a.put (ops[i]'(Nat.le_of_ble_eq_true hi)).dst undef) (w.setRow g (rowA n f))) : wpOp P ops Q i K a w := wpOp_at hi hw (op_store_row ty x y g n f f' t ho hx hy hg hi' h)
end
theorem wpAnyH_as {md : Region.Mode} {fuel : Nat} {listed : Array Bool} {b : Act} (e : a = b) (h : wpAnyH P md ops Q S fuel listed b w) : wpAnyH P md ops Q S fuel listed a w := e ▸ h
theorem yields_pure {v : Value} (hw : Region.wanted o (yielded ops a.tmps) = true) (h : ∀ w, (execOp a.eval o).run P w = .ok (.value v) w) : YieldsIf P ops S o v a := .inl ⟨hw, fun w _ => h w⟩
end
def putsU (a : Act) (ks : List Nat) (u : Nat → Value) : Act := ks.foldl (fun a k => a.put (some k) (u k)) a
/-- The region has run to its end; it has filled the slots ks alone. -/
def Joined (a : Act) (ks : List Nat) (F : World → (Nat → Value) → Prop) (e : Exit) (b : Act) (w : World) : Prop :=
  e = .normal ∧ b = putsU a ks (fun k => b.tmps.getD k undef) ∧ F w (fun k => b.tmps.getD k undef)
theorem wp_join {P : Program} {c : Code} {a : Act} {w : World} {Q : Exit → Act → World → Prop} (ks : List Nat) (F : World → (Nat → Value) → Prop) (A : (Nat → Value) → Act) (hA : ∀ u, putsU a ks u = A u)
    (h1 : c.wp P (Joined a ks F) a w) (h2 : ∀ w u, F w u → Q .normal (A u) w) : c.wp P Q a w :=
  Code.wp_mono (fun e b w ⟨he, hb, hf⟩ => by subst he; rw [hb, hA]; exact h2 w _ hf) h1
theorem rowA_range {w : World} {b o n : Nat} {f : Nat → Int} (h : Ints w b o n f) : w.rangeAt b o (rowA n f).toList := by
  intro j v hv
  by_cases hj : j < n
  · have := rowA_get f hj
    rw [Array.getElem?_toList, this] at hv
    injection hv with hv
    rw [← hv]; exact h.at_ j hj
  · rw [Array.getElem?_toList, rowA_none f (by omega)] at hv; cases hv
section
variable {ops : Array Oper} {S : World → Prop} {o : Oper} {a : Act}
theorem yields_i64 (x : Operand) (g off : Nat) (v : Int) (hw : Region.wanted o (yielded ops a.tmps) = true) (ho : o.op = .load 2 x) (hx : a.eval x = .pointer (some ⟨g, off, none⟩))
    (hS : ∀ w, S w → w.cell? ⟨g, off, none⟩ = some (.int .i64 v)) : YieldsIf Try.prog ops S o (.int .i64 v) a :=
  .inl ⟨hw, fun w hs => by
    have h := hS w hs
    unfold execOp
    simp only [ho, hx]
    go_simp⟩
theorem yields_mid {P : Program} {ops : Array Oper} {S : World → Prop} {o : Oper} {a : Act} (ty : TypeId) (x : Operand) (g off n : Nat) (f : Nat → Int) (d : TypeDesc) (hw : Region.wanted o (yielded ops a.tmps) = true) (ho : o.op = .load ty x)
    (hx : a.eval x = .pointer (some ⟨g, off, none⟩)) (hS : ∀ w, S w → Ints w g off n f) (hu : P.underlying ty = some d) (hd : d.isRow = true) (hi : (P.info? ty).map (·.size) = some n) : YieldsIf P ops S o (.agg (rowA n f)) a :=
  .inl ⟨hw, fun w hs => by
    unfold execOp
    simp only [ho, hx, Instr.loadAt, Instr.sureAddr, Sem.run_bind, Sem.run_pure, Result.andThen_ok, run_loadVar_mid w g off ty (rowA n f).toList d (rowA_range (hS w hs)) hu hd (by rw [Array.length_toList, rowA_size]; exact hi)]⟩
end
end Go.Proofs.Ytdndomknjefgkaa
