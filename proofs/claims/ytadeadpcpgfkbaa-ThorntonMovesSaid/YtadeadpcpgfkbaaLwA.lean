/- A law's memory: a covariance that is made while others stand. -/
import Derived.Test.YtadeadpcpgfkbaaKP
import Derived.Laws.Tables
namespace Go.Proofs.Ytadeadpcpgfkbaa
open Go.RowKit

theorem built24 : Try.prog.built 27 [] = some (rowA 24 fun _ => 0) := by kernel_rfl
theorem build_none {P : Program} {ops : Array Oper} {rest : List Oper} {o : Oper} {a : Act} {w : World} {Q : Exit → Act → World → Prop} (hgd : o.guard = none) (t : TypeId) (ho : o.op = .build t #[]) (n : Nat) (g : Nat → Int) (hb : P.built t [] = some (rowA n g))
    (h : wpList P ops Q rest (a.put o.dst (.agg (rowA n g))) w) : wpList P ops Q (o :: rest) a w := by
  refine wpList_build hgd t _ ho ?_ ?_
  · simp [hb]
  · simpa [hb] using h
structure LwA (w0 : World) (q : Nat) (L : List (Nat × Nat × (Nat → Int) × TypeId)) (A : Nat) (f : Nat → Int) (w : World) : Prop where
  lo : w0.heap.size ≤ A
  gt : (∀ x ∈ L, x.1 ≠ A) ∧ A ≠ q
  blk : Blk w A (rowA 300 f) 29
section
variable {w0 : World} {q A : Nat} {g g2 : Bool} {L : List (Nat × Nat × (Nat → Int) × TypeId)} {f r : Nat → Int} {w w' : World}
theorem Lw.fresh (s : Lw w0 q g L w) (n : Nat) (t : TypeId) (hn : n = 300 := by rfl) (ht : t = 29 := by rfl) : LwA w0 q L w.heap.size (fun _ => 0) (w.alloc (.cells (rowA n fun _ => 0) t)) := by
  subst hn ht
  exact ⟨s.be.size, ⟨s.newer, Nat.ne_of_gt s.fl.lt⟩, Blk.made _ _ _ rfl⟩
theorem Lw.row (s : Lw w0 q g L w) (hl : w0.heap.size ≤ A) (hb : (∀ x ∈ L, x.1 ≠ A) ∧ A ≠ q) (d : Array Value) : Lw w0 q g L (w.setRow A d) :=
  ⟨s.fl.row hb.2 _, below_setRow s.be hl _, s.lo, fun x hx => ⟨(s.B x hx).1, (s.B x hx).2.1, (s.B x hx).2.2.otherRow (hb.1 x hx)⟩⟩
theorem LwA.flag (s : LwA w0 q L A f w) (k : FlW q 0 g2 w w') : LwA w0 q L A f w' := ⟨s.lo, s.gt, s.blk.flag s.gt.2 k⟩
theorem LwA.call (s : LwA w0 q L A f w) (k : Below w.heap.size w w') : LwA w0 q L A f w' := ⟨s.lo, s.gt, s.blk.call k⟩
theorem LwA.set (s : LwA w0 q L A f w) : LwA w0 q L A r (w.setRow A (rowA 300 r)) := ⟨s.lo, s.gt, s.blk.setRow⟩
theorem Lw.join (s : Lw w0 q g L w) (k : LwA w0 q L A f w) : Lw w0 q g ((A, 300, f, 29) :: L) w := ⟨s.fl, s.be, s.lo, fun x hx => by
  rcases List.mem_cons.1 hx with rfl | h
  · exact ⟨k.lo, k.gt.2, k.blk⟩
  · exact s.B x h⟩
end
end Go.Proofs.Ytadeadpcpgfkbaa
