/- Steps of regions in any order that keep a class of worlds; what two buffers hold. -/
import Derived.Test.YtdndomknjefgkaaRgTm
import Derived.Test.YtdndomknjefgkaaRgZ
import Derived.OrdersHeld
import Derived.Deep.MidRow
namespace Go.Proofs.Ytdndomknjefgkaa.Rg
open Go.RowKit
section
variable {P : Program} {ops : Array Oper} {Q : Exit → Act → World → Prop} {S : World → Prop} {o : Oper} {a : Act} {w : World} {K : Act → World → Prop}
theorem yields_row (ty : TypeId) (x : Operand) (g n : Nat) (f : Nat → Int) (t : TypeId) (d : TypeDesc) (hw : Region.wanted o (yielded ops a.tmps) = true) (ho : o.op = .load ty x)
    (hx : a.eval x = .pointer (some ⟨g, 0, none⟩)) (hS : ∀ w, S w → Blk w g (rowA n f) t)
    (hu : P.underlying ty = some d) (hd : (match d with | .struct _ | .array _ _ => true | _ => false) = true) (hi : (P.info? ty).map (·.size) = some n) : YieldsIf P ops S o (.agg (rowA n f)) a :=
  .inl ⟨hw, fun w hs => by
    unfold execOp
    simp only [ho, hx, Instr.loadAt, Instr.sureAddr, Sem.run_bind, Sem.run_pure, Result.andThen_ok, run_loadVar_row w g t ty (rowA n f) (0, 0) d (hS w hs) hu hd (by rw [rowA_size]; exact hi)]⟩
end
theorem rowA_range {w : World} {b o n : Nat} {f : Nat → Int} (h : Ints w b o n f) : w.rangeAt b o (rowA n f).toList := by
  intro j v hv
  by_cases hj : j < n
  · have := rowA_get f hj
    rw [Array.getElem?_toList, this] at hv
    injection hv with hv
    rw [← hv]; exact h.at_ j hj
  · rw [Array.getElem?_toList, rowA_none f (by omega)] at hv; cases hv
section
variable {ops : Array Oper} {S : World → Prop} {o : Oper} {a : Act}
theorem yields_i64 (x : Operand) (g off : Nat) (v : Int) (hw : Region.wanted o (yielded ops a.tmps) = true) (ho : o.op = .load 2 x) (hx : a.eval x = .pointer (some ⟨g, off, none⟩))
    (hS : ∀ w, S w → w.cell? ⟨g, off, none⟩ = some (.int .i64 v)) : YieldsIf Try.prog ops S o (.int .i64 v) a :=
  .inl ⟨hw, fun w hs => by
    have h := hS w hs
    unfold execOp
    simp only [ho, hx]
    go_simp⟩
theorem yields_int (x : Operand) (g off : Nat) (v : Int) (hw : Region.wanted o (yielded ops a.tmps) = true) (ho : o.op = .load 3 x) (hx : a.eval x = .pointer (some ⟨g, off, none⟩))
    (hS : ∀ w, S w → w.cell? ⟨g, off, none⟩ = some (.int .i64 v)) : YieldsIf Try.prog ops S o (.int .i64 v) a :=
  .inl ⟨hw, fun w hs => by
    have h := hS w hs
    unfold execOp
    simp only [ho, hx]
    go_simp⟩
theorem yields_sl (x : Operand) (g off : Nat) (a' : Option Addr) (n' c' : Nat) (hw : Region.wanted o (yielded ops a.tmps) = true) (ho : o.op = .load 61 x) (hx : a.eval x = .pointer (some ⟨g, off, none⟩))
    (hS : ∀ w, S w → w.cell? ⟨g, off, none⟩ = some (.slice a' n' c')) : YieldsIf Try.prog ops S o (.slice a' n' c') a :=
  .inl ⟨hw, fun w hs => by
    have h := hS w hs
    unfold execOp
    simp only [ho, hx]
    go_simp⟩
end
theorem yields_mid {P : Program} {ops : Array Oper} {S : World → Prop} {o : Oper} {a : Act} (ty : TypeId) (x : Operand) (g off n : Nat) (f : Nat → Int) (d : TypeDesc) (hw : Region.wanted o (yielded ops a.tmps) = true) (ho : o.op = .load ty x)
    (hx : a.eval x = .pointer (some ⟨g, off, none⟩)) (hS : ∀ w, S w → Ints w g off n f) (hu : P.underlying ty = some d) (hd : d.isRow = true) (hi : (P.info? ty).map (·.size) = some n) : YieldsIf P ops S o (.agg (rowA n f)) a :=
  .inl ⟨hw, fun w hs => by
    unfold execOp
    simp only [ho, hx, Instr.loadAt, Instr.sureAddr, Sem.run_bind, Sem.run_pure, Result.andThen_ok, run_loadVar_mid w g off ty (rowA n f).toList d (rowA_range (hS w hs)) hu hd (by rw [Array.length_toList, rowA_size]; exact hi)]⟩
section
variable {P : Program} {ops : Array Oper} {C : World → Prop} {Q : Act → Prop} {o : Oper} {rest : List Oper} {a : Act}
theorem rq_call (v : Value) (f : FuncId) (args : Array Value) (hw : Region.wanted o (yielded ops a.tmps) = true) (h : ∀ w, (execOp a.eval o).run P w = .ok (.enter f args) w)
    (hc : ∀ w, C w → Calls P f args w fun e w' => e = .returned v ∧ C w') (hk : Rq P ops C Q rest (a.put o.dst v)) : Rq P ops C Q (o :: rest) a := ⟨by
  unfold wpQuiet; rw [if_pos hw]
  exact ⟨v, fun w hw => by unfold Oper.quietAt; rw [h w]; exact ⟨rfl, hc w hw⟩, hk.out⟩⟩
theorem rq_if {v : Value} (hy : ∀ w, C w → YieldsIf P ops (fun w' => w' = w) o v a) (hw : Region.wanted o (yielded ops a.tmps) = true) (hk : Rq P ops C Q rest (a.put o.dst v)) : Rq P ops C Q (o :: rest) a :=
  rq_in v hw (fun w hc => by
    rcases hy w hc with ⟨_, h⟩ | ⟨h, _⟩
    · exact h w rfl
    · rw [hw] at h; cases h) hk
theorem rq_row (ty : TypeId) (x : Operand) (g n : Nat) (f : Nat → Int) (t : TypeId) (d : TypeDesc) (hw : Region.wanted o (yielded ops a.tmps) = true) (ho : o.op = .load ty x)
    (hx : a.eval x = .pointer (some ⟨g, 0, none⟩)) (hC : ∀ w, C w → Blk w g (rowA n f) t) 
    (hu : P.underlying ty = some d) (hd : (match d with | .struct _ | .array _ _ => true | _ => false) = true) (hi : (P.info? ty).map (·.size) = some n)
    (hk : Rq P ops C Q rest (a.put o.dst (.agg (rowA n f)))) : Rq P ops C Q (o :: rest) a :=
  rq_if (fun w hc => yields_row ty x g n f t d hw ho hx (fun _w' e => e ▸ hC w hc) hu hd hi) hw hk
theorem rq_mid (ty : TypeId) (x : Operand) (g off n : Nat) (f : Nat → Int) (d : TypeDesc) (hw : Region.wanted o (yielded ops a.tmps) = true) (ho : o.op = .load ty x)
    (hx : a.eval x = .pointer (some ⟨g, off, none⟩)) (hC : ∀ w, C w → Ints w g off n f) (hu : P.underlying ty = some d) (hd : d.isRow = true) (hi : (P.info? ty).map (·.size) = some n)
    (hk : Rq P ops C Q rest (a.put o.dst (.agg (rowA n f)))) : Rq P ops C Q (o :: rest) a :=
  rq_if (fun w hc => yields_mid ty x g off n f d hw ho hx (fun _w' e => e ▸ hC w hc) hu hd hi) hw hk
end
theorem rq_i64 {ops : Array Oper} {C : World → Prop} {Q : Act → Prop} {o : Oper} {rest : List Oper} {a : Act} (x : Operand) (g off : Nat) (v : Int) (hw : Region.wanted o (yielded ops a.tmps) = true) (ho : o.op = .load 2 x)
    (hx : a.eval x = .pointer (some ⟨g, off, none⟩)) (hC : ∀ w, C w → w.cell? ⟨g, off, none⟩ = some (.int .i64 v)) (hk : Rq Try.prog ops C Q rest (a.put o.dst (.int .i64 v))) : Rq Try.prog ops C Q (o :: rest) a :=
  rq_if (fun w hc => yields_i64 x g off v hw ho hx (fun _w' e => e ▸ hC w hc)) hw hk
theorem rq_int {ops : Array Oper} {C : World → Prop} {Q : Act → Prop} {o : Oper} {rest : List Oper} {a : Act} (x : Operand) (g off : Nat) (v : Int) (hw : Region.wanted o (yielded ops a.tmps) = true) (ho : o.op = .load 3 x)
    (hx : a.eval x = .pointer (some ⟨g, off, none⟩)) (hC : ∀ w, C w → w.cell? ⟨g, off, none⟩ = some (.int .i64 v)) (hk : Rq Try.prog ops C Q rest (a.put o.dst (.int .i64 v))) : Rq Try.prog ops C Q (o :: rest) a :=
  rq_if (fun w hc => yields_int x g off v hw ho hx (fun _w' e => e ▸ hC w hc)) hw hk
theorem rq_sl {ops : Array Oper} {C : World → Prop} {Q : Act → Prop} {o : Oper} {rest : List Oper} {a : Act} (x : Operand) (g off : Nat) (a' : Option Addr) (n' c' : Nat) (hw : Region.wanted o (yielded ops a.tmps) = true) (ho : o.op = .load 61 x)
    (hx : a.eval x = .pointer (some ⟨g, off, none⟩)) (hC : ∀ w, C w → w.cell? ⟨g, off, none⟩ = some (.slice a' n' c')) (hk : Rq Try.prog ops C Q rest (a.put o.dst (.slice a' n' c'))) : Rq Try.prog ops C Q (o :: rest) a :=
  rq_if (fun w hc => yields_sl x g off a' n' c' hw ho hx (fun _w' e => e ▸ hC w hc)) hw hk
theorem rq_neq {P : Program} {ops : Array Oper} {C : World → Prop} {Q : Act → Prop} {o : Oper} {rest : List Oper} {a : Act} (ty : TypeId) (x y : Operand) (t : TypeId) (n : Nat) (f : Nat → Int) (hf : SX.flatOk P ty = some (List.replicate n true)) (hw : Region.wanted o (yielded ops a.tmps) = true) (ho : o.op = .binOp .neq ty x y t)
    (hx : a.eval x = .agg (rowA n f)) (hy : a.eval y = .agg (rowA n f)) (hk : Rq P ops C Q rest (a.put o.dst (.bool false))) : Rq P ops C Q (o :: rest) a :=
  rq_pure _ hw (fun w => by
    unfold execOp
    simp only [ho, hx, hy, Sem.run_bind, Sem.run_pure, Result.andThen_ok, guard_row hf, neq_row hf, eqB_same, Bool.not_true]) hk
theorem rq_nil {P : Program} {ops : Array Oper} {C : World → Prop} {Q : Act → Prop} {a : Act} (h : Q a) : Rq P ops C Q [] a := ⟨wpQuiet_nil h⟩
theorem cntSize : (Try.prog.info? 68).map (·.size) = some 5 := by kernel_rfl
theorem total_row (b : Ring) (hs : b.late + b.full + b.bad + b.out < 1000000000000) (w : World) : Calls Try.prog 29 #[.agg (rowA 5 (cF b))] w fun e w' => e = .returned (.int .i64 (b.late + b.full + b.bad + b.out : Nat)) ∧ Below w.heap.size w w' :=
  total_any b.cIn b.late b.full b.bad b.out hs w
theorem two_know {w W : World} {X : List Nat} {A1 A2 : Nat} {b : Ring} (s : Two w (QB A2 b) (PB A1 b) (foot A2) (foot A1) X W) : ∃ av cv, A1 < W.heap.size ∧ A2 < W.heap.size ∧ b.cIn = b.late + b.full + b.bad + b.out + b.l.length ∧ W.cell? ⟨A2, 1, none⟩ = some (.slice av b.l.length cv) ∧ W.cell? ⟨A2, 2, none⟩ = some (.int .i64 b.hor) ∧
    W.cell? ⟨A2, 3, none⟩ = some (.int .i64 (b.cIn : Nat)) ∧ W.cell? ⟨A2, 4, none⟩ = some (.int .i64 (b.late : Nat)) ∧ W.cell? ⟨A2, 5, none⟩ = some (.int .i64 (b.full : Nat)) ∧ W.cell? ⟨A2, 6, none⟩ = some (.int .i64 (b.bad : Nat)) ∧ W.cell? ⟨A2, 7, none⟩ = some (.int .i64 (b.out : Nat)) ∧
    (0 < b.l.length → ∃ gv ov, av = some ⟨gv, ov, none⟩ ∧ gv < W.heap.size ∧ Ints W gv ov 9 (fn (b.l.headD []))) := by
  obtain ⟨v, u, h1, h2, h3, h4⟩ := s.ex
  obtain ⟨a, c, rfl, _⟩ := h1.row.shape
  refine ⟨a, c, h2.blk.lt, h1.blk.lt, h1.sum, h1.blk.cell 1, h1.blk.cell 2, h1.blk.cell 3, h1.blk.cell 4, h1.blk.cell 5, h1.blk.cell 6, h1.blk.cell 7, fun hl => ?_⟩
  rcases rsome h1.row with ⟨_, h0⟩ | ⟨g, o, c', e, hg, _, hi⟩
  · rw [h0] at hl; exact absurd hl (by simp)
  · injection e with e _ _
    refine ⟨g, o, e, hg, ?_⟩
    have := Ints.sam hi hl
    rw [Nat.mul_zero, Nat.add_zero] at this
    rwa [show b.l.getD 0 [] = b.l.headD [] by cases b.l <;> rfl] at this
end Go.Proofs.Ytdndomknjefgkaa.Rg
