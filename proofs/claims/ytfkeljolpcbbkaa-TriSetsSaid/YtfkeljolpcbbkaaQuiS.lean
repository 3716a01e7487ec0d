/- The steps of regions that keep a class of worlds, behind a structure (the elaborator does not look into the rest of the region). -/
import Derived.Test.YtfkeljolpcbbkaaTHS
namespace Go.Proofs.Ytfkeljolpcbbkaa
open Go.RowKit
structure Cq (P : Program) (ops : Array Oper) (C : World → Prop) (Q : Act → Prop) (l : List Oper) (a : Act) : Prop where
  h : wpQuiet P ops C Q l a
section
variable {P : Program} {ops : Array Oper} {C : World → Prop} {Q : Act → Prop} {o : Oper} {rest : List Oper} {a : Act}
theorem cq_as {l : List Oper} (b : Act) (h : a = b) (hk : Cq P ops C Q l b) : Cq P ops C Q l a := h ▸ hk
theorem cq_nil (h : Q a) : Cq P ops C Q [] a := ⟨wpQuiet_nil h⟩
theorem cq_skip (hw : Region.wanted o (yielded ops a.tmps) = false) (hk : Cq P ops C Q rest (a.put o.dst undef)) : Cq P ops C Q (o :: rest) a := ⟨qs_skip hw hk.h⟩
theorem cq_pure (u : Value) (hw : Region.wanted o (yielded ops a.tmps) = true) (h : ∀ w, (execOp a.eval o).run P w = .ok (.value u) w) (hk : Cq P ops C Q rest (a.put o.dst u)) : Cq P ops C Q (o :: rest) a := ⟨qs_pure u hw h hk.h⟩
theorem cq_call (v : Value) (f : FuncId) (args : Array Value) (hw : Region.wanted o (yielded ops a.tmps) = true) (h : ∀ w, (execOp a.eval o).run P w = .ok (.enter f args) w)
    (hc : ∀ w, C w → Calls P f args w fun e w' => e = .returned v ∧ C w') (hk : Cq P ops C Q rest (a.put o.dst v)) : Cq P ops C Q (o :: rest) a := ⟨qs_call v f args hw h hc hk.h⟩
theorem cq_row (ty : TypeId) (x : Operand) (g n : Nat) (f : Nat → Int) (t : TypeId) (d : TypeDesc) (hw : Region.wanted o (yielded ops a.tmps) = true) (ho : o.op = .load ty x)
    (hx : a.eval x = .pointer (some ⟨g, 0, none⟩)) (hC : ∀ w, C w → Blk w g (rowA n f) t)
    (hu : P.underlying ty = some d) (hd : (match d with | .struct _ | .array _ _ => true | _ => false) = true) (hi : (P.info? ty).map (·.size) = some n)
    (hk : Cq P ops C Q rest (a.put o.dst (.agg (rowA n f)))) : Cq P ops C Q (o :: rest) a := ⟨qs_row ty x g n f t d hw ho hx hC hu hd hi hk.h⟩
theorem cq_mid (ty : TypeId) (x : Operand) (g off n : Nat) (f : Nat → Int) (d : TypeDesc) (hw : Region.wanted o (yielded ops a.tmps) = true) (ho : o.op = .load ty x)
    (hx : a.eval x = .pointer (some ⟨g, off, none⟩)) (hC : ∀ w, C w → Ints w g off n f)
    (hu : P.underlying ty = some d) (hd : d.isRow = true) (hi : (P.info? ty).map (·.size) = some n)
    (hk : Cq P ops C Q rest (a.put o.dst (.agg (rowA n f)))) : Cq P ops C Q (o :: rest) a := ⟨qs_mid ty x g off n f d hw ho hx hC hu hd hi hk.h⟩
theorem cq_neq (ty : TypeId) (x y : Operand) (t : TypeId) (n : Nat) (f g : Nat → Int) (hf : SX.flatOk P ty = some (List.replicate n true)) (hw : Region.wanted o (yielded ops a.tmps) = true) (ho : o.op = .binOp .neq ty x y t)
    (hx : a.eval x = .agg (rowA n f)) (hy : a.eval y = .agg (rowA n g)) (hk : Cq P ops C Q rest (a.put o.dst (.bool (!eqB n f g)))) : Cq P ops C Q (o :: rest) a := ⟨qs_neq ty x y t n f g hf hw ho hx hy hk.h⟩
theorem region_cq {id : Nat} {Q : Exit → Act → World → Prop} {a : Act} {w : World} {l : List Oper} (C : World → Prop) (hm : P.follows .mixedOrders = true) (hB : Region.lexB .any l.toArray = true) (hC : C { w with drawn := w.drawn + 1 })
    (h : Cq P l.toArray C (fun a' => ∀ w', C w' → Q .normal a' w') l a) : (Code.region id l.toArray true).wp P Q a w :=
  region_in C hm hB hC h.h
end
end Go.Proofs.Ytfkeljolpcbbkaa
