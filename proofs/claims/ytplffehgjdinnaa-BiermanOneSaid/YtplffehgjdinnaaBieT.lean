/- Regions in any order that only read: their steps, one by one. -/
import Derived.Test.YtplffehgjdinnaaBieS
import Derived.Deep.Quiet
namespace Go.Proofs.Ytplffehgjdinnaa
open Go.RowKit

section
variable {P : Program} {ops : Array Oper} {C : World → Prop} {Q : Act → Prop} {o : Oper} {rest : List Oper} {a : Act}
theorem rs_as {l : List Oper} (b : Act) (h : a = b) (hk : wpQuiet P ops C Q l b) : wpQuiet P ops C Q l a := h ▸ hk
theorem rs_in (u : Value) (hw : Region.wanted o (yielded ops a.tmps) = true) (h : ∀ w, C w → (execOp a.eval o).run P w = .ok (.value u) w) (hk : wpQuiet P ops C Q rest (a.put o.dst u)) : wpQuiet P ops C Q (o :: rest) a := by
  unfold wpQuiet; rw [if_pos hw]
  exact ⟨u, fun w hc => by unfold Oper.quietAt; rw [h w hc]; exact ⟨rfl, rfl⟩, hk⟩
theorem rs_pure (u : Value) (hw : Region.wanted o (yielded ops a.tmps) = true) (h : ∀ w, (execOp a.eval o).run P w = .ok (.value u) w) (hk : wpQuiet P ops C Q rest (a.put o.dst u)) : wpQuiet P ops C Q (o :: rest) a :=
  rs_in u hw (fun w _ => h w) hk
theorem rs_row (ty : TypeId) (x : Operand) (g n : Nat) (f : Nat → Int) (t : TypeId) (d : TypeDesc) (hw : Region.wanted o (yielded ops a.tmps) = true) (ho : o.op = .load ty x)
    (hx : a.eval x = .pointer (some ⟨g, 0, none⟩)) (hC : ∀ w, C w → Blk w g (rowA n f) t) 
    (hu : P.underlying ty = some d) (hd : (match d with | .struct _ | .array _ _ => true | _ => false) = true) (hi : (P.info? ty).map (·.size) = some n)
    (hk : wpQuiet P ops C Q rest (a.put o.dst (.agg (rowA n f)))) : wpQuiet P ops C Q (o :: rest) a :=
  rs_in _ hw (fun w hc => by
    unfold execOp
    simp only [ho, hx, Instr.loadAt, Instr.sureAddr, Sem.run_bind, Sem.run_pure, Result.andThen_ok, run_loadVar_row w g t ty (rowA n f) (0, 0) d (hC w hc) hu hd (by rw [rowA_size]; exact hi)]) hk
/-- A cell is read. -/
theorem rs_cell (ty : TypeId) (x : Operand) (b i : Nat) (v : Value) (hw : Region.wanted o (yielded ops a.tmps) = true) (ho : o.op = .load ty x)
    (hx : a.eval x = .pointer (some ⟨b, i, none⟩)) (hC : ∀ w, C w → w.cell? ⟨b, i, none⟩ = some v) (hl : ∀ w, w.cell? ⟨b, i, none⟩ = some v → (loadVar ty ⟨b, i, none⟩).run P w = .ok v w)
    (hk : wpQuiet P ops C Q rest (a.put o.dst v)) : wpQuiet P ops C Q (o :: rest) a :=
  rs_in _ hw (fun w hc => by
    unfold execOp
    simp only [ho, hx, Instr.loadAt, Instr.sureAddr, Sem.run_bind, Sem.run_pure, Result.andThen_ok, hl w (hC w hc)]) hk
theorem rs_eql (ty : TypeId) (x y : Operand) (t : TypeId) (n : Nat) (f g : Nat → Int) (hf : SX.flatOk P ty = some (List.replicate n true)) (hw : Region.wanted o (yielded ops a.tmps) = true) (ho : o.op = .binOp .eql ty x y t)
    (hx : a.eval x = .agg (rowA n f)) (hy : a.eval y = .agg (rowA n g)) (hk : wpQuiet P ops C Q rest (a.put o.dst (.bool (eqB n f g)))) : wpQuiet P ops C Q (o :: rest) a :=
  rs_pure _ hw (fun w => by
    unfold execOp
    simp only [ho, hx, hy, Sem.run_bind, Sem.run_pure, Result.andThen_ok, guard_row hf, eql_row hf]) hk
theorem rs_neq (ty : TypeId) (x y : Operand) (t : TypeId) (n : Nat) (f g : Nat → Int) (hf : SX.flatOk P ty = some (List.replicate n true)) (hw : Region.wanted o (yielded ops a.tmps) = true) (ho : o.op = .binOp .neq ty x y t)
    (hx : a.eval x = .agg (rowA n f)) (hy : a.eval y = .agg (rowA n g)) (hk : wpQuiet P ops C Q rest (a.put o.dst (.bool (!eqB n f g)))) : wpQuiet P ops C Q (o :: rest) a :=
  rs_pure _ hw (fun w => by
    unfold execOp
    simp only [ho, hx, hy, Sem.run_bind, Sem.run_pure, Result.andThen_ok, guard_row hf, neq_row hf]) hk
theorem rs_skip (hw : Region.wanted o (yielded ops a.tmps) = false) (hk : wpQuiet P ops C Q rest (a.put o.dst undef)) : wpQuiet P ops C Q (o :: rest) a := by
  unfold wpQuiet; rw [if_neg (by simp [hw])]; exact hk
theorem rg_in {id : Nat} {Q : Exit → Act → World → Prop} {a : Act} {w : World} {l : List Oper} (C : World → Prop) (hm : P.follows .mixedOrders = true) (hB : Region.lexB .any l.toArray = true) (hC : C { w with drawn := w.drawn + 1 })
    (h : wpQuiet P l.toArray C (fun a' => ∀ w', C w' → Q .normal a' w') l a) : (Code.region id l.toArray true).wp P Q a w :=
  wp_region_quiet hm hB hC (by simpa using h)
end
theorem covFlat2 : SX.flatOk Try.prog 79 = some (List.replicate 300 true) := by kernel_rfl
theorem rowFlat2 : SX.flatOk Try.prog 100 = some (List.replicate 24 true) := by kernel_rfl
end Go.Proofs.Ytplffehgjdinnaa
