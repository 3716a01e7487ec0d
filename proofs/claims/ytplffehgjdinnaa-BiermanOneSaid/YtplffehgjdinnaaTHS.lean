/- Package thornton: the step. -/
import Derived.Test.YtplffehgjdinnaaRN
import Derived.Test.YtplffehgjdinnaaRowE
import Derived.Test.YtplffehgjdinnaaTHO
import Derived.Deep.MidRow
import Derived.Deep.Quiet
import Derived.OrdersHeld

/- Reg -/
namespace Go.Proofs.Ytplffehgjdinnaa
open Go.RowKit

section
variable {P : Program} {ops : Array Oper} {Q : Exit → Act → World → Prop} {S : World → Prop} {o : Oper} {a : Act} {w : World} {K : Act → World → Prop}
theorem wpOp_do {i : Nat} (hi : ops[i]? = some o) (hw : Region.wanted o (yielded ops a.tmps) = true) (h : o.wp P a w K Q) : wpOp P ops Q i K a w := by
  unfold wpOp
  simp only [hi, hw, if_true]
  exact .inl h
theorem wpOp_at {i : Nat} (hi : Nat.ble (i + 1) ops.size = true) (hw : Region.wanted (ops[i]'(Nat.le_of_ble_eq_true hi)) (yielded ops a.tmps) = true) (h : (ops[i]'(Nat.le_of_ble_eq_true hi)).wp P a w K Q) : wpOp P ops Q i K a w :=
  wpOp_do (Array.getElem?_eq_getElem _) hw h
theorem op_call {f : FuncId} {args : Array Value} {v : Value} {R : World → Prop} (h : (execOp a.eval o).run P w = .ok (.enter f args) w) (hc : Calls P f args w fun e w' => e = .returned v ∧ R w') (hk : ∀ w', R w' → K (a.put o.dst v) w') : o.wp P a w K Q := by
  unfold Oper.wp
  rw [h, Oper.upon_enter]
  exact hc.mono fun e w' ⟨he, hr⟩ => by subst he; exact hk w' hr
theorem op_value {v : Value} {w' : World} (h : (execOp a.eval o).run P w = .ok (.value v) w') (hk : K (a.put o.dst v) w') : o.wp P a w K Q := by
  unfold Oper.wp
  rw [h]; exact hk
theorem op_store_row (ty : TypeId) (x y : Operand) (g n : Nat) (f f' : Nat → Int) (t : TypeId) (ho : o.op = .store ty x y) (hx : a.eval x = .pointer (some ⟨g, 0, none⟩)) (hy : a.eval y = .agg (rowA n f)) (hg : Blk w g (rowA n f') t) (hi : (P.info? ty).map (·.size) = some n)
    (h : K (a.put o.dst undef) (w.setRow g (rowA n f))) : o.wp P a w K Q :=
  wp_store_row ty x y ho g _ hx hy t _ hg (by rw [rowA_size]; exact hi) (by rw [rowA_size, rowA_size]) (rowA_one n f) h
theorem yields_row (ty : TypeId) (x : Operand) (g n : Nat) (f : Nat → Int) (t : TypeId) (d : TypeDesc) (hw : Region.wanted o (yielded ops a.tmps) = true) (ho : o.op = .load ty x)
    (hx : a.eval x = .pointer (some ⟨g, 0, none⟩)) (hS : ∀ w, S w → Blk w g (rowA n f) t)
    (hu : P.underlying ty = some d) (hd : (match d with | .struct _ | .array _ _ => true | _ => false) = true) (hi : (P.info? ty).map (·.size) = some n) : YieldsIf P ops S o (.agg (rowA n f)) a :=
  .inl ⟨hw, fun w hs => by
    unfold execOp
    simp only [ho, hx, Instr.loadAt, Instr.sureAddr, Sem.run_bind, Sem.run_pure, Result.andThen_ok, run_loadVar_row w g t ty (rowA n f) (0, 0) d (hS w hs) hu hd (by rw [rowA_size]; exact hi)]⟩
section
variable {i : Nat} (hi : Nat.ble (i + 1) ops.size = true) (hw : Region.wanted (ops[i]'(Nat.le_of_ble_eq_true hi)) (yielded ops a.tmps) = true)
include hw
theorem wpOp_call {f : FuncId} {args : Array Value} {v : Value} {R : World → Prop} (h : (execOp a.eval (ops[i]'(Nat.le_of_ble_eq_true hi))).run P w = .ok (.enter f args) w) (hc : Calls P f args w fun e w' => e = .returned v ∧ R w')
    (hk : ∀ w', R w' → K (a.put (ops[i]'(Nat.le_of_ble_eq_true hi)).dst v) w') : wpOp P ops Q i K a w := wpOp_at hi hw (op_call h hc hk)
theorem wpOp_value {v : Value} {w' : World} (h : (execOp a.eval (ops[i]'(Nat.le_of_ble_eq_true hi))).run P w = .ok (.value v) w') (hk : K (a.put (ops[i]'(Nat.le_of_ble_eq_true hi)).dst v) w') : wpOp P ops Q i K a w := wpOp_at hi hw (op_value h hk)
theorem wpOp_store (ty : TypeId) (x y : Operand) (g n : Nat) (f f' : Nat → Int) (t : TypeId) (ho : (ops[i]'(Nat.le_of_ble_eq_true hi)).op = .store ty x y) (hx : a.eval x = .pointer (some ⟨g, 0, none⟩)) (hy : a.eval y = .agg (rowA n f)) (hg : Blk w g (rowA n f') t) (hi' : (P.info? ty).map (·.size) = some n)
    (h : K (a.put (ops[i]'(Nat.le_of_ble_eq_true hi)).dst undef) (w.setRow g (rowA n f))) : wpOp P ops Q i K a w := wpOp_at hi hw (op_store_row ty x y g n f f' t ho hx hy hg hi' h)
end
theorem wpAnyH_as {md : Region.Mode} {fuel : Nat} {listed : Array Bool} {b : Act} (e : a = b) (h : wpAnyH P md ops Q S fuel listed b w) : wpAnyH P md ops Q S fuel listed a w := e ▸ h
theorem yields_pure {v : Value} (hw : Region.wanted o (yielded ops a.tmps) = true) (h : ∀ w, (execOp a.eval o).run P w = .ok (.value v) w) : YieldsIf P ops S o v a := .inl ⟨hw, fun w _ => h w⟩
end
end Go.Proofs.Ytplffehgjdinnaa

/- QuiR -/
namespace Go.Proofs.Ytplffehgjdinnaa
open Go.RowKit

section
variable {P : Program} {ops : Array Oper} {C : World → Prop} {Q : Act → Prop} {o : Oper} {rest : List Oper} {a : Act}
end

def putsU (a : Act) (ks : List Nat) (u : Nat → Value) : Act := ks.foldl (fun a k => a.put (some k) (u k)) a
def Joined (a : Act) (ks : List Nat) (F : World → (Nat → Value) → Prop) (e : Exit) (b : Act) (w : World) : Prop :=
  e = .normal ∧ b = putsU a ks (fun k => b.tmps.getD k undef) ∧ F w (fun k => b.tmps.getD k undef)
theorem wp_join {P : Program} {c : Code} {a : Act} {w : World} {Q : Exit → Act → World → Prop} (ks : List Nat) (F : World → (Nat → Value) → Prop) (A : (Nat → Value) → Act) (hA : ∀ u, putsU a ks u = A u)
    (h1 : c.wp P (Joined a ks F) a w) (h2 : ∀ w u, F w u → Q .normal (A u) w) : c.wp P Q a w :=
  Code.wp_mono (fun e b w ⟨he, hb, hf⟩ => by subst he; rw [hb, hA]; exact h2 w _ hf) h1
end Go.Proofs.Ytplffehgjdinnaa

/- ThoI -/
namespace Go.Proofs.Ytplffehgjdinnaa
open Go.RowKit

structure Sit (w0 : World) (p o : Nat) (f g q : Nat → Int) (h : Bool) (w : World) : Prop where
  F : FlW p o h w0 w
  P : Blk w w0.heap.size (rowA 300 f) 79
  G : Blk w (w0.heap.size + 1) (rowA 576 g) 97
  Q : Blk w (w0.heap.size + 2) (rowA 24 q) 77
  R : Blk w (w0.heap.size + 3) (rowA 300 fun _ => 0) 79
structure Fresh (w0 : World) (B n : Nat) (f : Nat → Int) (t : TypeId) (w : World) : Prop where
  gt : w0.heap.size + 3 < B
  blk : Blk w B (rowA n f) t
section
variable {w0 : World} {p o : Nat} {f g q : Nat → Int} {h h2 : Bool} {w w' : World}
theorem Sit.flag (s : Sit w0 p o f g q h w) (hp : p < w0.heap.size) (k : FlW p o h2 w w') : Sit w0 p o f g q h2 w' := ⟨s.F.trans k, s.P.flag (by omega) k, s.G.flag (by omega) k, s.Q.flag (by omega) k, s.R.flag (by omega) k⟩
theorem Sit.alloc (s : Sit w0 p o f g q h w) (x : Obj) : Sit w0 p o f g q h (w.alloc x) := ⟨s.F.alloc _, s.P.alloc _, s.G.alloc _, s.Q.alloc _, s.R.alloc _⟩
theorem Sit.drew (s : Sit w0 p o f g q h w) : Sit w0 p o f g q h w.drew := ⟨s.F.drew, s.P.drew, s.G.drew, s.Q.drew, s.R.drew⟩
theorem Sit.row (s : Sit w0 p o f g q h w) {B : Nat} (hB : w0.heap.size + 3 < B) (d : Array Value) : Sit w0 p o f g q h (w.setRow B d) := ⟨s.F.row (by omega) _, s.P.otherRow (by omega), s.G.otherRow (by omega), s.Q.otherRow (by omega), s.R.otherRow (by omega)⟩
theorem Sit.fresh (s : Sit w0 p o f g q h w) (n : Nat) (t : TypeId) : Fresh w0 w.heap.size n (fun _ => 0) t (w.alloc (.cells (rowA n fun _ => 0) t)) := ⟨s.R.lt, Blk.made _ _ _ rfl⟩
theorem Fresh.flag {B n : Nat} {r : Nat → Int} {t : TypeId} (s : Fresh w0 B n r t w) (hp : p < w0.heap.size) (k : FlW p o h2 w w') : Fresh w0 B n r t w' := ⟨s.gt, s.blk.flag (by have := s.gt; omega) k⟩
theorem Fresh.alloc {B n : Nat} {r : Nat → Int} {t : TypeId} (s : Fresh w0 B n r t w) (x : Obj) : Fresh w0 B n r t (w.alloc x) := ⟨s.gt, s.blk.alloc _⟩
theorem Fresh.set {B n : Nat} {r r2 : Nat → Int} {t : TypeId} (s : Fresh w0 B n r t w) : Fresh w0 B n r2 t (w.setRow B (rowA n r2)) := ⟨s.gt, s.blk.setRow⟩
theorem Fresh.other {B n C : Nat} {r : Nat → Int} {t : TypeId} (s : Fresh w0 B n r t w) (hne : B ≠ C) (d : Array Value) : Fresh w0 B n r t (w.setRow C d) := ⟨s.gt, s.blk.otherRow hne⟩
end
end Go.Proofs.Ytplffehgjdinnaa

/- ThoH -/
namespace Go.Proofs.Ytplffehgjdinnaa
open Go.RowKit

end Go.Proofs.Ytplffehgjdinnaa
