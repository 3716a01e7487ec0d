/- A law's memory: a covariance that is made while others stand. -/
import Derived.Test.YtfkeljolpcbbkaaKP
import Derived.Laws.Tables
namespace Go.Proofs.Ytfkeljolpcbbkaa
open Go.RowKit

theorem built24 : Try.prog.built 91 [] = some (rowA 24 fun _ => 0) := by kernel_rfl
theorem build_none {P : Program} {ops : Array Oper} {rest : List Oper} {o : Oper} {a : Act} {w : World} {Q : Exit → Act → World → Prop} (hgd : o.guard = none) (t : TypeId) (ho : o.op = .build t #[]) (n : Nat) (g : Nat → Int) (hb : P.built t [] = some (rowA n g))
    (h : wpList P ops Q rest (a.put o.dst (.agg (rowA n g))) w) : wpList P ops Q (o :: rest) a w := by
  refine wpList_build hgd t _ ho ?_ ?_
  · simp [hb]
  · simpa [hb] using h
structure LwA (w0 : World) (q : Nat) (L : List (Nat × Nat × (Nat → Int) × TypeId)) (A : Nat) (f : Nat → Int) (w : World) : Prop where
  lo : w0.heap.size ≤ A
  gt : (∀ x ∈ L, x.1 ≠ A) ∧ A ≠ q
  blk : Blk w A (rowA 300 f) 93
section
variable {w0 : World} {q A : Nat} {g g2 : Bool} {L : List (Nat × Nat × (Nat → Int) × TypeId)} {f r : Nat → Int} {w w' : World}
end
end Go.Proofs.Ytfkeljolpcbbkaa
