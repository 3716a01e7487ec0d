/- Steps of regions in any order that keep a class of worlds, closed to the elaborator: loads, calls; a store into the midst of a block. -/
import Derived.Test.YtdndomknjefgkaaDnF
import Derived.Test.YtdndomknjefgkaaRgZ
namespace Go.Proofs.Ytdndomknjefgkaa.Rg
open Go.RowKit
section
variable {P : Program} {ops : Array Oper} {C : World → Prop} {Q : Act → Prop} {o : Oper} {rest : List Oper} {a : Act}
theorem rq_call (v : Value) (f : FuncId) (args : Array Value) (hw : Region.wanted o (yielded ops a.tmps) = true) (h : ∀ w, (execOp a.eval o).run P w = .ok (.enter f args) w)
    (hc : ∀ w, C w → Calls P f args w fun e w' => e = .returned v ∧ C w') (hk : Rq P ops C Q rest (a.put o.dst v)) : Rq P ops C Q (o :: rest) a := ⟨by
  unfold wpQuiet; rw [if_pos hw]
  exact ⟨v, fun w hw => by unfold Oper.quietAt; rw [h w]; exact ⟨rfl, hc w hw⟩, hk.out⟩⟩
theorem rq_if {v : Value} (hy : ∀ w, C w → YieldsIf P ops (fun w' => w' = w) o v a) (hw : Region.wanted o (yielded ops a.tmps) = true) (hk : Rq P ops C Q rest (a.put o.dst v)) : Rq P ops C Q (o :: rest) a :=
  rq_in v hw (fun w hc => by
    rcases hy w hc with ⟨_, h⟩ | ⟨h, _⟩
    · exact h w rfl
    · rw [hw] at h; cases h) hk
theorem rq_row (ty : TypeId) (x : Operand) (g n : Nat) (f : Nat → Int) (t : TypeId) (d : TypeDesc) (hw : Region.wanted o (yielded ops a.tmps) = true) (ho : o.op = .load ty x)
    (hx : a.eval x = .pointer (some ⟨g, 0, none⟩)) (hC : ∀ w, C w → Blk w g (rowA n f) t) 
    (hu : P.underlying ty = some d) (hd : (match d with | .struct _ | .array _ _ => true | _ => false) = true) (hi : (P.info? ty).map (·.size) = some n)
    (hk : Rq P ops C Q rest (a.put o.dst (.agg (rowA n f)))) : Rq P ops C Q (o :: rest) a :=
  rq_if (fun w hc => yields_row ty x g n f t d hw ho hx (fun _w' e => e ▸ hC w hc) hu hd hi) hw hk
theorem rq_mid (ty : TypeId) (x : Operand) (g off n : Nat) (f : Nat → Int) (d : TypeDesc) (hw : Region.wanted o (yielded ops a.tmps) = true) (ho : o.op = .load ty x)
    (hx : a.eval x = .pointer (some ⟨g, off, none⟩)) (hC : ∀ w, C w → Ints w g off n f) (hu : P.underlying ty = some d) (hd : d.isRow = true) (hi : (P.info? ty).map (·.size) = some n)
    (hk : Rq P ops C Q rest (a.put o.dst (.agg (rowA n f)))) : Rq P ops C Q (o :: rest) a :=
  rq_if (fun w hc => yields_mid ty x g off n f d hw ho hx (fun _w' e => e ▸ hC w hc) hu hd hi) hw hk
end
theorem rq_i64 {ops : Array Oper} {C : World → Prop} {Q : Act → Prop} {o : Oper} {rest : List Oper} {a : Act} (x : Operand) (g off : Nat) (v : Int) (hw : Region.wanted o (yielded ops a.tmps) = true) (ho : o.op = .load 2 x)
    (hx : a.eval x = .pointer (some ⟨g, off, none⟩)) (hC : ∀ w, C w → w.cell? ⟨g, off, none⟩ = some (.int .i64 v)) (hk : Rq Try.prog ops C Q rest (a.put o.dst (.int .i64 v))) : Rq Try.prog ops C Q (o :: rest) a :=
  rq_if (fun w hc => yields_i64 x g off v hw ho hx (fun _w' e => e ▸ hC w hc)) hw hk
theorem op_mid {P : Program} {op : Oper} {a : Act} {w : World} {K : Act → World → Prop} {Q : Exit → Act → World → Prop} (ty : TypeId) (x y : Operand) (g off n m : Nat) (f G : Nat → Int) (t : TypeId) (ho : op.op = .store ty x y)
    (hx : a.eval x = .pointer (some ⟨g, off, none⟩)) (hy : a.eval y = .agg (rowA n f)) (hg : Blk w g (rowA m G) t) (hm : off + n ≤ m) (hi : (P.info? ty).map (·.size) = some n)
    (h : K (a.put op.dst undef) (putI w g off n f)) : op.wp P a w K Q := by
  refine wp_store_mid ty x y ho g off (rowA n f) hx hy (fun j hj => ?_) (by rw [rowA_size]; exact hi) ?_ ?_
  · rw [rowA_size] at hj
    refine ⟨by rw [hg.cell, rowA_get _ (by omega)]; rfl, hg.free _⟩
  · exact rowA_one n f
  · rw [rowA_list]; exact h
theorem mid_store {P : Program} {ops : Array Oper} {rest : List Oper} {op : Oper} {a : Act} {w : World} {Q : Exit → Act → World → Prop} (ty : TypeId) (x y : Operand) (hgd : op.guard = none) (ho : op.op = .store ty x y) (g off n m : Nat) (f G : Nat → Int) (t : TypeId)
    (hx : a.eval x = .pointer (some ⟨g, off, none⟩)) (hy : a.eval y = .agg (rowA n f)) (hg : Blk w g (rowA m G) t) (hm : off + n ≤ m) (hi : (P.info? ty).map (·.size) = some n)
    (h : wpList P ops Q rest (a.put op.dst undef) (putI w g off n f)) : wpList P ops Q (op :: rest) a w :=
  wpList_plain hgd fun _ hK => op_mid ty x y g off n m f G t ho hx hy hg hm hi (hK _ _ h)
end Go.Proofs.Ytdndomknjefgkaa.Rg
