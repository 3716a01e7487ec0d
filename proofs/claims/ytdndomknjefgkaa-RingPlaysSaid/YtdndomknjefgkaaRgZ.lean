/- Regions in any order that only read, with guards: their steps, one by one. -/
import Derived.Test.YtdndomknjefgkaaRgY
import Derived.Deep.Quiet
namespace Go.Proofs.Ytdndomknjefgkaa.Rg
open Go.RowKit
section
variable {P : Program} {ops : Array Oper} {C : World → Prop} {Q : Act → Prop} {o : Oper} {rest : List Oper} {a : Act}
theorem rs_in (u : Value) (hw : Region.wanted o (yielded ops a.tmps) = true) (h : ∀ w, C w → (execOp a.eval o).run P w = .ok (.value u) w) (hk : wpQuiet P ops C Q rest (a.put o.dst u)) : wpQuiet P ops C Q (o :: rest) a := by
  unfold wpQuiet; rw [if_pos hw]
  exact ⟨u, fun w hc => by unfold Oper.quietAt; rw [h w hc]; exact ⟨rfl, rfl⟩, hk⟩
theorem rs_skip (hw : Region.wanted o (yielded ops a.tmps) = false) (hk : wpQuiet P ops C Q rest (a.put o.dst undef)) : wpQuiet P ops C Q (o :: rest) a := by
  unfold wpQuiet; rw [if_neg (by simp [hw])]; exact hk
theorem rg_in {id : Nat} {Q : Exit → Act → World → Prop} {a : Act} {w : World} {l : List Oper} (C : World → Prop) (hm : P.follows .mixedOrders = true) (hB : Region.lexB .any l.toArray = true) (hC : C { w with drawn := w.drawn + 1 })
    (h : wpQuiet P l.toArray C (fun a' => ∀ w', C w' → Q .normal a' w') l a) : (Code.region id l.toArray true).wp P Q a w :=
  wp_region_quiet hm hB hC (by simpa using h)
end
/-- A region that only reads, closed to the elaborator. -/
structure Rq (P : Program) (ops : Array Oper) (C : World → Prop) (Q : Act → Prop) (l : List Oper) (a : Act) : Prop where
  out : wpQuiet P ops C Q l a
section
variable {P : Program} {ops : Array Oper} {C : World → Prop} {Q : Act → Prop} {o : Oper} {rest : List Oper} {a : Act}
theorem rq_as {l : List Oper} {b : Act} (h : a = b) (hk : Rq P ops C Q l b) : Rq P ops C Q l a := h ▸ hk
theorem rq_in (u : Value) (hw : Region.wanted o (yielded ops a.tmps) = true) (h : ∀ w, C w → (execOp a.eval o).run P w = .ok (.value u) w) (hk : Rq P ops C Q rest (a.put o.dst u)) : Rq P ops C Q (o :: rest) a := ⟨rs_in u hw h hk.out⟩
theorem rq_pure (u : Value) (hw : Region.wanted o (yielded ops a.tmps) = true) (h : ∀ w, (execOp a.eval o).run P w = .ok (.value u) w) (hk : Rq P ops C Q rest (a.put o.dst u)) : Rq P ops C Q (o :: rest) a := ⟨rs_in u hw (fun w _ => h w) hk.out⟩
theorem rq_skip (hw : Region.wanted o (yielded ops a.tmps) = false) (hk : Rq P ops C Q rest (a.put o.dst undef)) : Rq P ops C Q (o :: rest) a := ⟨rs_skip hw hk.out⟩
theorem rq_start {l : List Oper} (h : Rq P ops C Q l a) : wpQuiet P ops C Q l a := h.out
end
end Go.Proofs.Ytdndomknjefgkaa.Rg
