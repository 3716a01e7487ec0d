/- Cells that stay; rows of one's own; a row's type behind a name; a law's memory. -/
import Derived.Test.YtfkeljolpcbbkaaOpq
import Derived.Test.YtfkeljolpcbbkaaTHO

/- Keep -/
namespace Go.Proofs.Ytfkeljolpcbbkaa
open Go.RowKit

end Go.Proofs.Ytfkeljolpcbbkaa

/- Fr -/
namespace Go.Proofs.Ytfkeljolpcbbkaa
open Go.RowKit

structure Fr (w0 : World) (p o : Nat) (g : Bool) (L : List (Nat × Nat × (Nat → Int) × TypeId)) (w : World) : Prop where
  F : FlW p o g w0 w
  B : ∀ x ∈ L, w0.heap.size ≤ x.1 ∧ Blk w x.1 (rowA x.2.1 x.2.2.1) x.2.2.2
structure Fresh2 (w0 : World) (L : List (Nat × Nat × (Nat → Int) × TypeId)) (B n : Nat) (f : Nat → Int) (t : TypeId) (w : World) : Prop where
  lo : w0.heap.size ≤ B
  gt : ∀ x ∈ L, x.1 ≠ B
  blk : Blk w B (rowA n f) t
section
variable {w0 : World} {p o : Nat} {g g2 : Bool} {L : List (Nat × Nat × (Nat → Int) × TypeId)} {w w' : World}
theorem Fr.get (s : Fr w0 p o g L w) {b n : Nat} {f : Nat → Int} {t : TypeId} (h : (b, n, f, t) ∈ L) : Blk w b (rowA n f) t := (s.B _ h).2
theorem Fr.flag (s : Fr w0 p o g L w) (hp : p < w0.heap.size) (k : FlW p o g2 w w') : Fr w0 p o g2 L w' := ⟨s.F.trans k, fun x hx => ⟨(s.B x hx).1, (s.B x hx).2.flag (by have := (s.B x hx).1; omega) k⟩⟩
theorem Fr.call (s : Fr w0 p o g L w) (k : Below w.heap.size w w') : Fr w0 p o g L w' := ⟨s.F.then k, fun x hx => ⟨(s.B x hx).1, (s.B x hx).2.call k⟩⟩
theorem Fr.alloc (s : Fr w0 p o g L w) (y : Obj) : Fr w0 p o g L (w.alloc y) := ⟨s.F.alloc _, fun x hx => ⟨(s.B x hx).1, (s.B x hx).2.alloc _⟩⟩
theorem Fr.drew (s : Fr w0 p o g L w) : Fr w0 p o g L w.drew := ⟨s.F.drew, fun x hx => ⟨(s.B x hx).1, (s.B x hx).2.drew⟩⟩
theorem Fr.hit (s : Fr w0 p o g L w) (e : g = g2) : Fr w0 p o g2 L w := e ▸ s
theorem Fr.row (s : Fr w0 p o g L w) {b : Nat} (h : w0.heap.size ≤ b) (hb : ∀ x ∈ L, x.1 ≠ b) (d : Array Value) : Fr w0 p o g L (w.setRow b d) := ⟨s.F.row h _, fun x hx => ⟨(s.B x hx).1, (s.B x hx).2.otherRow (hb x hx)⟩⟩
theorem Fr.other (s : Fr w0 p o g L w) {b i : Nat} (h : w0.heap.size ≤ b) (hb : ∀ x ∈ L, x.1 ≠ b) (v : Value) : Fr w0 p o g L (w.setCell ⟨b, i, none⟩ v) := ⟨s.F.other h _, fun x hx => ⟨(s.B x hx).1, (s.B x hx).2.other (hb x hx) _⟩⟩
theorem Fr.fresh (s : Fr w0 p o g L w) (n : Nat) (t : TypeId) : Fresh2 w0 L w.heap.size n (fun _ => 0) t (w.alloc (.cells (rowA n fun _ => 0) t)) := ⟨s.F.size, fun x hx => Nat.ne_of_lt (s.B x hx).2.lt, Blk.made _ _ _ rfl⟩
variable {B n : Nat} {f r : Nat → Int} {t : TypeId}
theorem Fresh2.flag (s : Fresh2 w0 L B n f t w) (hp : p < w0.heap.size) (k : FlW p o g2 w w') : Fresh2 w0 L B n f t w' := ⟨s.lo, s.gt, s.blk.flag (by have := s.lo; omega) k⟩
theorem Fresh2.call (s : Fresh2 w0 L B n f t w) (k : Below w.heap.size w w') : Fresh2 w0 L B n f t w' := ⟨s.lo, s.gt, s.blk.call k⟩
theorem Fresh2.alloc (s : Fresh2 w0 L B n f t w) (y : Obj) : Fresh2 w0 L B n f t (w.alloc y) := ⟨s.lo, s.gt, s.blk.alloc _⟩
theorem Fresh2.drew (s : Fresh2 w0 L B n f t w) : Fresh2 w0 L B n f t w.drew := ⟨s.lo, s.gt, s.blk.drew⟩
theorem Fresh2.set (s : Fresh2 w0 L B n f t w) : Fresh2 w0 L B n r t (w.setRow B (rowA n r)) := ⟨s.lo, s.gt, s.blk.setRow⟩
theorem Fresh2.put (s : Fresh2 w0 L B n f t w) {k : Nat} (hk : k < n) (v : Int) : Fresh2 w0 L B n (upd f k v) t (w.setCell ⟨B, k, none⟩ (.int .i64 v)) := ⟨s.lo, s.gt, s.blk.setI hk v⟩
theorem Fresh2.otherRow (s : Fresh2 w0 L B n f t w) {C : Nat} (hne : B ≠ C) (d : Array Value) : Fresh2 w0 L B n f t (w.setRow C d) := ⟨s.lo, s.gt, s.blk.otherRow hne⟩
theorem Fresh2.other (s : Fresh2 w0 L B n f t w) {C i : Nat} (hne : B ≠ C) (v : Value) : Fresh2 w0 L B n f t (w.setCell ⟨C, i, none⟩ v) := ⟨s.lo, s.gt, s.blk.other hne _⟩
end
end Go.Proofs.Ytfkeljolpcbbkaa

/- OpR -/
namespace Go.Proofs.Ytfkeljolpcbbkaa
open Go.RowKit

structure OpR (t T : TypeId) (n N : Nat) : Prop where
  is : t = T
  agg : ∀ w, Sem.run Try.prog (isAgg T) w = .ok true w
  size : ∀ w, Sem.run Try.prog (sizeOf T) w = .ok N w
  load : ∀ w b f t', Blk w b (rowA n f) t' → Sem.run Try.prog (loadCellsFrom ⟨b, 0, none⟩ 0 N #[]) w = .ok (rowA n f) w
  len : ∀ f, (rowA n f).size = N
end Go.Proofs.Ytfkeljolpcbbkaa

/- Lw -/
namespace Go.Proofs.Ytfkeljolpcbbkaa
open Go.RowKit

structure Lw (w0 : World) (q : Nat) (g : Bool) (L : List (Nat × Nat × (Nat → Int) × TypeId)) (w : World) : Prop where
  fl : Fl q 0 g w
  be : Below w0.heap.size w0 w
  lo : w0.heap.size ≤ q
  B : ∀ x ∈ L, w0.heap.size ≤ x.1 ∧ x.1 ≠ q ∧ Blk w x.1 (rowA x.2.1 x.2.2.1) x.2.2.2
section
variable {w0 : World} {q : Nat} {g g2 : Bool} {L : List (Nat × Nat × (Nat → Int) × TypeId)} {w w' : World}
end
end Go.Proofs.Ytfkeljolpcbbkaa
