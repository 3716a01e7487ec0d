/- Cells that stay; rows of one's own; a row's type behind a name; a law's memory. -/
import Derived.Test.YtadeadpcpgfkbaaOpq
import Derived.Test.YtadeadpcpgfkbaaTHO

/- Keep -/
namespace Go.Proofs.Ytadeadpcpgfkbaa
open Go.RowKit

theorem keep_set {w : World} {b i p o : Nat} {v : Value} (u : Value) (h : w.cell? ⟨b, i, none⟩ = some v) (hne : b ≠ p ∨ i ≠ o) : (w.setCell ⟨p, o, none⟩ u).cell? ⟨b, i, none⟩ = some v := (set_cell_other hne _).trans h
end Go.Proofs.Ytadeadpcpgfkbaa

/- Fr -/
namespace Go.Proofs.Ytadeadpcpgfkbaa
open Go.RowKit

structure Fr (w0 : World) (p o : Nat) (g : Bool) (L : List (Nat × Nat × (Nat → Int) × TypeId)) (w : World) : Prop where
  F : FlW p o g w0 w
  B : ∀ x ∈ L, w0.heap.size ≤ x.1 ∧ Blk w x.1 (rowA x.2.1 x.2.2.1) x.2.2.2
structure Fresh2 (w0 : World) (L : List (Nat × Nat × (Nat → Int) × TypeId)) (B n : Nat) (f : Nat → Int) (t : TypeId) (w : World) : Prop where
  lo : w0.heap.size ≤ B
  gt : ∀ x ∈ L, x.1 ≠ B
  blk : Blk w B (rowA n f) t
section
variable {w0 : World} {p o : Nat} {g g2 : Bool} {L : List (Nat × Nat × (Nat → Int) × TypeId)} {w w' : World}
theorem Fr.get (s : Fr w0 p o g L w) {b n : Nat} {f : Nat → Int} {t : TypeId} (h : (b, n, f, t) ∈ L) : Blk w b (rowA n f) t := (s.B _ h).2
theorem Fr.flag (s : Fr w0 p o g L w) (hp : p < w0.heap.size) (k : FlW p o g2 w w') : Fr w0 p o g2 L w' := ⟨s.F.trans k, fun x hx => ⟨(s.B x hx).1, (s.B x hx).2.flag (by have := (s.B x hx).1; omega) k⟩⟩
theorem Fr.call (s : Fr w0 p o g L w) (k : Below w.heap.size w w') : Fr w0 p o g L w' := ⟨s.F.then k, fun x hx => ⟨(s.B x hx).1, (s.B x hx).2.call k⟩⟩
theorem Fr.alloc (s : Fr w0 p o g L w) (y : Obj) : Fr w0 p o g L (w.alloc y) := ⟨s.F.alloc _, fun x hx => ⟨(s.B x hx).1, (s.B x hx).2.alloc _⟩⟩
theorem Fr.drew (s : Fr w0 p o g L w) : Fr w0 p o g L w.drew := ⟨s.F.drew, fun x hx => ⟨(s.B x hx).1, (s.B x hx).2.drew⟩⟩
theorem Fr.hit (s : Fr w0 p o g L w) (e : g = g2) : Fr w0 p o g2 L w := e ▸ s
theorem Fr.row (s : Fr w0 p o g L w) {b : Nat} (h : w0.heap.size ≤ b) (hb : ∀ x ∈ L, x.1 ≠ b) (d : Array Value) : Fr w0 p o g L (w.setRow b d) := ⟨s.F.row h _, fun x hx => ⟨(s.B x hx).1, (s.B x hx).2.otherRow (hb x hx)⟩⟩
theorem Fr.other (s : Fr w0 p o g L w) {b i : Nat} (h : w0.heap.size ≤ b) (hb : ∀ x ∈ L, x.1 ≠ b) (v : Value) : Fr w0 p o g L (w.setCell ⟨b, i, none⟩ v) := ⟨s.F.other h _, fun x hx => ⟨(s.B x hx).1, (s.B x hx).2.other (hb x hx) _⟩⟩
theorem Fr.fresh (s : Fr w0 p o g L w) (n : Nat) (t : TypeId) : Fresh2 w0 L w.heap.size n (fun _ => 0) t (w.alloc (.cells (rowA n fun _ => 0) t)) := ⟨s.F.size, fun x hx => Nat.ne_of_lt (s.B x hx).2.lt, Blk.made _ _ _ rfl⟩
variable {B n : Nat} {f r : Nat → Int} {t : TypeId}
theorem Fresh2.flag (s : Fresh2 w0 L B n f t w) (hp : p < w0.heap.size) (k : FlW p o g2 w w') : Fresh2 w0 L B n f t w' := ⟨s.lo, s.gt, s.blk.flag (by have := s.lo; omega) k⟩
theorem Fresh2.call (s : Fresh2 w0 L B n f t w) (k : Below w.heap.size w w') : Fresh2 w0 L B n f t w' := ⟨s.lo, s.gt, s.blk.call k⟩
theorem Fresh2.alloc (s : Fresh2 w0 L B n f t w) (y : Obj) : Fresh2 w0 L B n f t (w.alloc y) := ⟨s.lo, s.gt, s.blk.alloc _⟩
theorem Fresh2.drew (s : Fresh2 w0 L B n f t w) : Fresh2 w0 L B n f t w.drew := ⟨s.lo, s.gt, s.blk.drew⟩
theorem Fresh2.set (s : Fresh2 w0 L B n f t w) : Fresh2 w0 L B n r t (w.setRow B (rowA n r)) := ⟨s.lo, s.gt, s.blk.setRow⟩
theorem Fresh2.put (s : Fresh2 w0 L B n f t w) {k : Nat} (hk : k < n) (v : Int) : Fresh2 w0 L B n (upd f k v) t (w.setCell ⟨B, k, none⟩ (.int .i64 v)) := ⟨s.lo, s.gt, s.blk.setI hk v⟩
theorem Fresh2.otherRow (s : Fresh2 w0 L B n f t w) {C : Nat} (hne : B ≠ C) (d : Array Value) : Fresh2 w0 L B n f t (w.setRow C d) := ⟨s.lo, s.gt, s.blk.otherRow hne⟩
theorem Fresh2.other (s : Fresh2 w0 L B n f t w) {C i : Nat} (hne : B ≠ C) (v : Value) : Fresh2 w0 L B n f t (w.setCell ⟨C, i, none⟩ v) := ⟨s.lo, s.gt, s.blk.other hne _⟩
theorem Fr.join (s : Fr w0 p o g L w) (k : Fresh2 w0 L B n f t w) : Fr w0 p o g ((B, n, f, t) :: L) w := ⟨s.F, fun x hx => by
  rcases List.mem_cons.1 hx with rfl | h
  · exact ⟨k.lo, k.blk⟩
  · exact s.B x h⟩
theorem Fr.drop {x : Nat × Nat × (Nat → Int) × TypeId} (s : Fr w0 p o g (x :: L) w) : Fr w0 p o g L w := ⟨s.F, fun y hy => s.B y (List.mem_cons_of_mem _ hy)⟩
end
end Go.Proofs.Ytadeadpcpgfkbaa

/- OpR -/
namespace Go.Proofs.Ytadeadpcpgfkbaa
open Go.RowKit

structure OpR (t T : TypeId) (n N : Nat) : Prop where
  is : t = T
  agg : ∀ w, Sem.run Try.prog (isAgg T) w = .ok true w
  size : ∀ w, Sem.run Try.prog (sizeOf T) w = .ok N w
  load : ∀ w b f t', Blk w b (rowA n f) t' → Sem.run Try.prog (loadCellsFrom ⟨b, 0, none⟩ 0 N #[]) w = .ok (rowA n f) w
  len : ∀ f, (rowA n f).size = N
theorem opr {t : TypeId} {n : Nat} (h1 : ∀ w, Sem.run Try.prog (isAgg t) w = .ok true w) (h2 : ∀ w, Sem.run Try.prog (sizeOf t) w = .ok n w) : ∃ T N, OpR t T n N :=
  ⟨_, n, rfl, h1, h2, fun _ _ _ _ h => load_row_from _ h, fun f => rowA_size n f⟩
theorem opCov : ∃ T N, OpR 29 T 300 N := opr (fun w => by kernel_rfl) (fun w => by kernel_rfl)
end Go.Proofs.Ytadeadpcpgfkbaa

/- Lw -/
namespace Go.Proofs.Ytadeadpcpgfkbaa
open Go.RowKit

theorem row_at {w : World} {b n k : Nat} {f : Nat → Int} {t : TypeId} {v : Int} (h : Blk w b (rowA n f) t) (hk : k < n) (e : f k = v) : w.cell? ⟨b, k, none⟩ = some (.int .i64 v) := by
  have := h.cell k
  rwa [rowA_get _ hk, e] at this
structure Lw (w0 : World) (q : Nat) (g : Bool) (L : List (Nat × Nat × (Nat → Int) × TypeId)) (w : World) : Prop where
  fl : Fl q 0 g w
  be : Below w0.heap.size w0 w
  lo : w0.heap.size ≤ q
  B : ∀ x ∈ L, w0.heap.size ≤ x.1 ∧ x.1 ≠ q ∧ Blk w x.1 (rowA x.2.1 x.2.2.1) x.2.2.2
section
variable {w0 : World} {q : Nat} {g g2 : Bool} {L : List (Nat × Nat × (Nat → Int) × TypeId)} {w w' : World}
theorem Lw.get (s : Lw w0 q g L w) {b n : Nat} {f : Nat → Int} {t : TypeId} (h : (b, n, f, t) ∈ L) : Blk w b (rowA n f) t := (s.B _ h).2.2
theorem Lw.flag (s : Lw w0 q g L w) (k : FlW q 0 g2 w w') : Lw w0 q g2 L w' := ⟨k.fl s.fl, s.be.trans (k.below s.be.size s.lo), s.lo, fun x hx => ⟨(s.B x hx).1, (s.B x hx).2.1, (s.B x hx).2.2.flag (s.B x hx).2.1 k⟩⟩
theorem Lw.call (s : Lw w0 q g L w) (k : Below w.heap.size w w') : Lw w0 q g L w' := ⟨s.fl.below k, s.be.trans (k.mono s.be.size), s.lo, fun x hx => ⟨(s.B x hx).1, (s.B x hx).2.1, (s.B x hx).2.2.call k⟩⟩
theorem Lw.alloc (s : Lw w0 q g L w) (y : Obj) : Lw w0 q g L (w.alloc y) := s.call ((Below.refl _ _).alloc (Nat.le_refl _) _)
theorem Lw.drew (s : Lw w0 q g L w) : Lw w0 q g L w.drew := ⟨s.fl.drew, s.be.trans (below_drewN 1 _), s.lo, fun x hx => ⟨(s.B x hx).1, (s.B x hx).2.1, (s.B x hx).2.2.drew⟩⟩
theorem Lw.hit (s : Lw w0 q g L w) (e : g = g2) : Lw w0 q g2 L w := e ▸ s
theorem Lw.made (s : Lw w0 q g L w) (n : Nat) (f : Nat → Int) (t : TypeId) : Lw w0 q g ((w.heap.size, n, f, t) :: L) (w.alloc (.cells (rowA n f) t)) :=
  have a := s.alloc (.cells (rowA n f) t)
  ⟨a.fl, a.be, a.lo, fun x hx => by
    rcases List.mem_cons.1 hx with rfl | h
    · exact ⟨s.be.size, Nat.ne_of_gt s.fl.lt, Blk.made _ _ _ rfl⟩
    · exact a.B x h⟩
theorem Lw.lay {b n : Nat} {f : Nat → Int} {t : TypeId} (s : Lw w0 q g ((b, n, f, t) :: L) w) (hb : ∀ x ∈ L, x.1 ≠ b) (r : Nat → Int) : Lw w0 q g ((b, n, r, t) :: L) (w.setRow b (rowA n r)) :=
  have hB := s.B _ (List.mem_cons_self ..)
  ⟨s.fl.row hB.2.1 _, below_setRow s.be hB.1 _, s.lo, fun x hx => by
    rcases List.mem_cons.1 hx with rfl | h
    · exact ⟨hB.1, hB.2.1, hB.2.2.setRow⟩
    · have := s.B x (List.mem_cons_of_mem _ h)
      exact ⟨this.1, this.2.1, this.2.2.otherRow (hb x h)⟩⟩
theorem Lw.newer (s : Lw w0 q g L w) : ∀ x ∈ L, x.1 ≠ w.heap.size := fun x hx => Nat.ne_of_lt (s.B x hx).2.2.lt
theorem Lw.drop {x : Nat × Nat × (Nat → Int) × TypeId} (s : Lw w0 q g (x :: L) w) : Lw w0 q g L w := ⟨s.fl, s.be, s.lo, fun z hz => s.B z (List.mem_cons_of_mem _ hz)⟩
theorem Lw.put {b n k : Nat} {f : Nat → Int} {t : TypeId} (s : Lw w0 q g ((b, n, f, t) :: L) w) (hb : ∀ x ∈ L, x.1 ≠ b) (hk : k < n) (v : Int) : Lw w0 q g ((b, n, upd f k v, t) :: L) (w.setCell ⟨b, k, none⟩ (.int .i64 v)) :=
  have hB := s.B _ (List.mem_cons_self ..)
  ⟨⟨keep_set _ s.fl.cell (.inl (Ne.symm hB.2.1)), by rw [set_frozen]; exact s.fl.free, by rw [size_set]; exact s.fl.lt⟩, s.be.setCell (p := ⟨b, k, none⟩) hB.1 _, s.lo, fun x hx => by
    rcases List.mem_cons.1 hx with rfl | h
    · exact ⟨hB.1, hB.2.1, hB.2.2.setI hk v⟩
    · have := s.B x (List.mem_cons_of_mem _ h)
      exact ⟨this.1, this.2.1, this.2.2.other (hb x h) _⟩⟩
end
end Go.Proofs.Ytadeadpcpgfkbaa
