/- Package thornton: the step. -/
import Derived.Test.YtfkeljolpcbbkaaRN
import Derived.Test.YtfkeljolpcbbkaaRowE
import Derived.Test.YtfkeljolpcbbkaaTHO
import Derived.Deep.MidRow
import Derived.Deep.Quiet
import Derived.OrdersHeld

/- Reg -/
namespace Go.Proofs.Ytfkeljolpcbbkaa
open Go.RowKit

section
variable {P : Program} {ops : Array Oper} {Q : Exit → Act → World → Prop} {S : World → Prop} {o : Oper} {a : Act} {w : World} {K : Act → World → Prop}
section
variable {i : Nat} (hi : Nat.ble (i + 1) ops.size = true) (hw : Region.wanted (ops[i]'(Nat.le_of_ble_eq_true hi)) (yielded ops a.tmps) = true)
include hw
end
end
end Go.Proofs.Ytfkeljolpcbbkaa

/- QuiR -/
namespace Go.Proofs.Ytfkeljolpcbbkaa
open Go.RowKit

section
variable {P : Program} {ops : Array Oper} {C : World → Prop} {Q : Act → Prop} {o : Oper} {rest : List Oper} {a : Act}
theorem qs_skip (hw : Region.wanted o (yielded ops a.tmps) = false) (hk : wpQuiet P ops C Q rest (a.put o.dst undef)) : wpQuiet P ops C Q (o :: rest) a := by
  unfold wpQuiet; rw [if_neg (by simp [hw])]; exact hk
theorem qs_in (u : Value) (hw : Region.wanted o (yielded ops a.tmps) = true) (h : ∀ w, C w → (execOp a.eval o).run P w = .ok (.value u) w) (hk : wpQuiet P ops C Q rest (a.put o.dst u)) : wpQuiet P ops C Q (o :: rest) a := by
  unfold wpQuiet; rw [if_pos hw]
  exact ⟨u, fun w hc => by unfold Oper.quietAt; rw [h w hc]; exact ⟨rfl, rfl⟩, hk⟩
theorem qs_pure (u : Value) (hw : Region.wanted o (yielded ops a.tmps) = true) (h : ∀ w, (execOp a.eval o).run P w = .ok (.value u) w) (hk : wpQuiet P ops C Q rest (a.put o.dst u)) : wpQuiet P ops C Q (o :: rest) a :=
  qs_in u hw (fun w _ => h w) hk
theorem qs_call (v : Value) (f : FuncId) (args : Array Value) (hw : Region.wanted o (yielded ops a.tmps) = true) (h : ∀ w, (execOp a.eval o).run P w = .ok (.enter f args) w)
    (hc : ∀ w, C w → Calls P f args w fun e w' => e = .returned v ∧ C w') (hk : wpQuiet P ops C Q rest (a.put o.dst v)) : wpQuiet P ops C Q (o :: rest) a := by
  unfold wpQuiet; rw [if_pos hw]
  exact ⟨v, fun w hw => by unfold Oper.quietAt; rw [h w]; exact ⟨rfl, hc w hw⟩, hk⟩
theorem qs_row (ty : TypeId) (x : Operand) (g n : Nat) (f : Nat → Int) (t : TypeId) (d : TypeDesc) (hw : Region.wanted o (yielded ops a.tmps) = true) (ho : o.op = .load ty x)
    (hx : a.eval x = .pointer (some ⟨g, 0, none⟩)) (hC : ∀ w, C w → Blk w g (rowA n f) t) 
    (hu : P.underlying ty = some d) (hd : (match d with | .struct _ | .array _ _ => true | _ => false) = true) (hi : (P.info? ty).map (·.size) = some n)
    (hk : wpQuiet P ops C Q rest (a.put o.dst (.agg (rowA n f)))) : wpQuiet P ops C Q (o :: rest) a :=
  qs_in _ hw (fun w hc => by
    unfold execOp
    simp only [ho, hx, Instr.loadAt, Instr.sureAddr, Sem.run_bind, Sem.run_pure, Result.andThen_ok, run_loadVar_row w g t ty (rowA n f) (0, 0) d (hC w hc) hu hd (by rw [rowA_size]; exact hi)]) hk
theorem rowA_range {w : World} {b o n : Nat} {f : Nat → Int} (h : Ints w b o n f) : w.rangeAt b o (rowA n f).toList := by
  intro j v hv
  by_cases hj : j < n
  · have := rowA_get f hj
    rw [Array.getElem?_toList, this] at hv
    injection hv with hv
    rw [← hv]; exact h.at_ j hj
  · rw [Array.getElem?_toList, rowA_none f (by omega)] at hv; cases hv
theorem qs_mid (ty : TypeId) (x : Operand) (g off n : Nat) (f : Nat → Int) (d : TypeDesc) (hw : Region.wanted o (yielded ops a.tmps) = true) (ho : o.op = .load ty x)
    (hx : a.eval x = .pointer (some ⟨g, off, none⟩)) (hC : ∀ w, C w → Ints w g off n f) 
    (hu : P.underlying ty = some d) (hd : d.isRow = true) (hi : (P.info? ty).map (·.size) = some n)
    (hk : wpQuiet P ops C Q rest (a.put o.dst (.agg (rowA n f)))) : wpQuiet P ops C Q (o :: rest) a :=
  qs_in _ hw (fun w hc => by
    unfold execOp
    simp only [ho, hx, Instr.loadAt, Instr.sureAddr, Sem.run_bind, Sem.run_pure, Result.andThen_ok, run_loadVar_mid w g off ty (rowA n f).toList d (rowA_range (hC w hc)) hu hd (by rw [Array.length_toList, rowA_size]; exact hi)]) hk
theorem qs_neq (ty : TypeId) (x y : Operand) (t : TypeId) (n : Nat) (f g : Nat → Int) (hf : SX.flatOk P ty = some (List.replicate n true)) (hw : Region.wanted o (yielded ops a.tmps) = true) (ho : o.op = .binOp .neq ty x y t)
    (hx : a.eval x = .agg (rowA n f)) (hy : a.eval y = .agg (rowA n g)) (hk : wpQuiet P ops C Q rest (a.put o.dst (.bool (!eqB n f g)))) : wpQuiet P ops C Q (o :: rest) a :=
  qs_pure _ hw (fun w => by
    unfold execOp
    simp only [ho, hx, hy, Sem.run_bind, Sem.run_pure, Result.andThen_ok, guard_row hf, neq_row hf]) hk
theorem region_in {id : Nat} {Q : Exit → Act → World → Prop} {a : Act} {w : World} {l : List Oper} (C : World → Prop) (hm : P.follows .mixedOrders = true) (hB : Region.lexB .any l.toArray = true) (hC : C { w with drawn := w.drawn + 1 })
    (h : wpQuiet P l.toArray C (fun a' => ∀ w', C w' → Q .normal a' w') l a) : (Code.region id l.toArray true).wp P Q a w :=
  wp_region_quiet hm hB hC (by simpa using h)
end

def putsU (a : Act) (ks : List Nat) (u : Nat → Value) : Act := ks.foldl (fun a k => a.put (some k) (u k)) a
def Joined (a : Act) (ks : List Nat) (F : World → (Nat → Value) → Prop) (e : Exit) (b : Act) (w : World) : Prop :=
  e = .normal ∧ b = putsU a ks (fun k => b.tmps.getD k undef) ∧ F w (fun k => b.tmps.getD k undef)
theorem wp_join {P : Program} {c : Code} {a : Act} {w : World} {Q : Exit → Act → World → Prop} (ks : List Nat) (F : World → (Nat → Value) → Prop) (A : (Nat → Value) → Act) (hA : ∀ u, putsU a ks u = A u)
    (h1 : c.wp P (Joined a ks F) a w) (h2 : ∀ w u, F w u → Q .normal (A u) w) : c.wp P Q a w :=
  Code.wp_mono (fun e b w ⟨he, hb, hf⟩ => by subst he; rw [hb, hA]; exact h2 w _ hf) h1
end Go.Proofs.Ytfkeljolpcbbkaa

/- ThoI -/
namespace Go.Proofs.Ytfkeljolpcbbkaa
open Go.RowKit

structure Sit (w0 : World) (p o : Nat) (f g q : Nat → Int) (h : Bool) (w : World) : Prop where
  F : FlW p o h w0 w
  P : Blk w w0.heap.size (rowA 300 f) 93
  G : Blk w (w0.heap.size + 1) (rowA 576 g) 110
  Q : Blk w (w0.heap.size + 2) (rowA 24 q) 91
  R : Blk w (w0.heap.size + 3) (rowA 300 fun _ => 0) 93
structure Fresh (w0 : World) (B n : Nat) (f : Nat → Int) (t : TypeId) (w : World) : Prop where
  gt : w0.heap.size + 3 < B
  blk : Blk w B (rowA n f) t
section
variable {w0 : World} {p o : Nat} {f g q : Nat → Int} {h h2 : Bool} {w w' : World}
theorem Sit.flag (s : Sit w0 p o f g q h w) (hp : p < w0.heap.size) (k : FlW p o h2 w w') : Sit w0 p o f g q h2 w' := ⟨s.F.trans k, s.P.flag (by omega) k, s.G.flag (by omega) k, s.Q.flag (by omega) k, s.R.flag (by omega) k⟩
theorem Sit.alloc (s : Sit w0 p o f g q h w) (x : Obj) : Sit w0 p o f g q h (w.alloc x) := ⟨s.F.alloc _, s.P.alloc _, s.G.alloc _, s.Q.alloc _, s.R.alloc _⟩
theorem Sit.drew (s : Sit w0 p o f g q h w) : Sit w0 p o f g q h w.drew := ⟨s.F.drew, s.P.drew, s.G.drew, s.Q.drew, s.R.drew⟩
theorem Sit.row (s : Sit w0 p o f g q h w) {B : Nat} (hB : w0.heap.size + 3 < B) (d : Array Value) : Sit w0 p o f g q h (w.setRow B d) := ⟨s.F.row (by omega) _, s.P.otherRow (by omega), s.G.otherRow (by omega), s.Q.otherRow (by omega), s.R.otherRow (by omega)⟩
theorem Sit.fresh (s : Sit w0 p o f g q h w) (n : Nat) (t : TypeId) : Fresh w0 w.heap.size n (fun _ => 0) t (w.alloc (.cells (rowA n fun _ => 0) t)) := ⟨s.R.lt, Blk.made _ _ _ rfl⟩
theorem Fresh.flag {B n : Nat} {r : Nat → Int} {t : TypeId} (s : Fresh w0 B n r t w) (hp : p < w0.heap.size) (k : FlW p o h2 w w') : Fresh w0 B n r t w' := ⟨s.gt, s.blk.flag (by have := s.gt; omega) k⟩
theorem Fresh.alloc {B n : Nat} {r : Nat → Int} {t : TypeId} (s : Fresh w0 B n r t w) (x : Obj) : Fresh w0 B n r t (w.alloc x) := ⟨s.gt, s.blk.alloc _⟩
theorem Fresh.set {B n : Nat} {r r2 : Nat → Int} {t : TypeId} (s : Fresh w0 B n r t w) : Fresh w0 B n r2 t (w.setRow B (rowA n r2)) := ⟨s.gt, s.blk.setRow⟩
theorem Fresh.other {B n C : Nat} {r : Nat → Int} {t : TypeId} (s : Fresh w0 B n r t w) (hne : B ≠ C) (d : Array Value) : Fresh w0 B n r t (w.setRow C d) := ⟨s.gt, s.blk.otherRow hne⟩
end
end Go.Proofs.Ytfkeljolpcbbkaa

/- ThoH -/
namespace Go.Proofs.Ytfkeljolpcbbkaa
open Go.RowKit

end Go.Proofs.Ytfkeljolpcbbkaa
