/- What stands while a law of bierman is walked. -/
import Derived.Test.YtplffehgjdinnaaBieAw
import Derived.Test.YtplffehgjdinnaaBieP
namespace Go.Proofs.Ytplffehgjdinnaa
open Go.RowKit

theorem row_at {w : World} {b n k : Nat} {f : Nat → Int} {t : TypeId} {v : Int} (h : Blk w b (rowA n f) t) (hk : k < n) (e : f k = v) : w.cell? ⟨b, k, none⟩ = some (.int .i64 v) := by
  have := h.cell k
  rwa [rowA_get _ hk, e] at this
/-- A flag at q, rows of one's own: where, how long, what, of which type. -/
structure Lw (w0 : World) (q : Nat) (g : Bool) (L : List (Nat × Nat × (Nat → Int) × TypeId)) (w : World) : Prop where
  fl : Fl q 0 g w
  be : Below w0.heap.size w0 w
  lo : w0.heap.size ≤ q
  B : ∀ x ∈ L, w0.heap.size ≤ x.1 ∧ x.1 ≠ q ∧ Blk w x.1 (rowA x.2.1 x.2.2.1) x.2.2.2
section
variable {w0 : World} {q : Nat} {g g2 : Bool} {L : List (Nat × Nat × (Nat → Int) × TypeId)} {w w' : World}
theorem Lw.get (s : Lw w0 q g L w) {b n : Nat} {f : Nat → Int} {t : TypeId} (h : (b, n, f, t) ∈ L) : Blk w b (rowA n f) t := (s.B _ h).2.2
theorem Lw.flag (s : Lw w0 q g L w) (k : FlW q 0 g2 w w') : Lw w0 q g2 L w' := ⟨k.fl s.fl, s.be.trans (k.below s.be.size s.lo), s.lo, fun x hx => ⟨(s.B x hx).1, (s.B x hx).2.1, (s.B x hx).2.2.flag (s.B x hx).2.1 k⟩⟩
theorem Lw.call (s : Lw w0 q g L w) (k : Below w.heap.size w w') : Lw w0 q g L w' := ⟨s.fl.below k, s.be.trans (k.mono s.be.size), s.lo, fun x hx => ⟨(s.B x hx).1, (s.B x hx).2.1, (s.B x hx).2.2.call k⟩⟩
theorem Lw.alloc (s : Lw w0 q g L w) (y : Obj) : Lw w0 q g L (w.alloc y) := s.call ((Below.refl _ _).alloc (Nat.le_refl _) _)
theorem Lw.drew (s : Lw w0 q g L w) : Lw w0 q g L w.drew := ⟨s.fl.drew, s.be.trans (below_drewN 1 _), s.lo, fun x hx => ⟨(s.B x hx).1, (s.B x hx).2.1, (s.B x hx).2.2.drew⟩⟩
theorem Lw.hit (s : Lw w0 q g L w) (e : g = g2) : Lw w0 q g2 L w := e ▸ s
/-- A row is made. -/
theorem Lw.made (s : Lw w0 q g L w) (n : Nat) (f : Nat → Int) (t : TypeId) : Lw w0 q g ((w.heap.size, n, f, t) :: L) (w.alloc (.cells (rowA n f) t)) :=
  have a := s.alloc (.cells (rowA n f) t)
  ⟨a.fl, a.be, a.lo, fun x hx => by
    rcases List.mem_cons.1 hx with rfl | h
    · exact ⟨s.be.size, Nat.ne_of_gt s.fl.lt, Blk.made _ _ _ rfl⟩
    · exact a.B x h⟩
/-- The newest row is laid anew. -/
theorem Lw.lay {b n : Nat} {f : Nat → Int} {t : TypeId} (s : Lw w0 q g ((b, n, f, t) :: L) w) (hb : ∀ x ∈ L, x.1 ≠ b) (r : Nat → Int) : Lw w0 q g ((b, n, r, t) :: L) (w.setRow b (rowA n r)) :=
  have hB := s.B _ (List.mem_cons_self ..)
  ⟨s.fl.row hB.2.1 _, below_setRow s.be hB.1 _, s.lo, fun x hx => by
    rcases List.mem_cons.1 hx with rfl | h
    · exact ⟨hB.1, hB.2.1, hB.2.2.setRow⟩
    · have := s.B x (List.mem_cons_of_mem _ h)
      exact ⟨this.1, this.2.1, this.2.2.otherRow (hb x h)⟩⟩
theorem Lw.newer (s : Lw w0 q g L w) : ∀ x ∈ L, x.1 ≠ w.heap.size := fun x hx => Nat.ne_of_lt (s.B x hx).2.2.lt
theorem Lw.swap {x y : Nat × Nat × (Nat → Int) × TypeId} (s : Lw w0 q g (x :: y :: L) w) : Lw w0 q g (y :: x :: L) w := ⟨s.fl, s.be, s.lo, fun z hz => s.B z (by simp only [List.mem_cons] at hz ⊢; rcases hz with h | h | h <;> simp [h])⟩
theorem Lw.drop {x : Nat × Nat × (Nat → Int) × TypeId} (s : Lw w0 q g (x :: L) w) : Lw w0 q g L w := ⟨s.fl, s.be, s.lo, fun z hz => s.B z (List.mem_cons_of_mem _ hz)⟩
/-- The newest row's number is set. -/
theorem Lw.put {b n k : Nat} {f : Nat → Int} {t : TypeId} (s : Lw w0 q g ((b, n, f, t) :: L) w) (hb : ∀ x ∈ L, x.1 ≠ b) (hk : k < n) (v : Int) : Lw w0 q g ((b, n, upd f k v, t) :: L) (w.setCell ⟨b, k, none⟩ (.int .i64 v)) :=
  have hB := s.B _ (List.mem_cons_self ..)
  ⟨⟨keep_set _ s.fl.cell (.inl (Ne.symm hB.2.1)), by rw [set_frozen]; exact s.fl.free, by rw [size_set]; exact s.fl.lt⟩, s.be.setCell (p := ⟨b, k, none⟩) hB.1 _, s.lo, fun x hx => by
    rcases List.mem_cons.1 hx with rfl | h
    · exact ⟨hB.1, hB.2.1, hB.2.2.setI hk v⟩
    · have := s.B x (List.mem_cons_of_mem _ h)
      exact ⟨this.1, this.2.1, this.2.2.other (hb x h) _⟩⟩
/-- What an update hands back is laid by. -/
theorem Lw.got (s : Lw w0 q g L w) (z1 z2 : Array Value) (n1 n2 : Nat) (t1 t2 : TypeId) (y k : Nat → Int) (h1 : z1 = rowA n1 fun _ => 0) (h2 : z2 = rowA n2 fun _ => 0) :
    Lw w0 q g ((w.heap.size + 1, n2, k, t2) :: (w.heap.size, n1, y, t1) :: L) ((((w.alloc (.cells z1 t1)).alloc (.cells z2 t2)).setRow w.heap.size (rowA n1 y)).setRow (w.heap.size + 1) (rowA n2 k)) := by
  subst h1 h2
  have a := (s.made n1 (fun _ => 0) t1).made n2 (fun _ => 0) t2
  have e : (w.alloc (.cells (rowA n1 fun _ => 0) t1)).heap.size = w.heap.size + 1 := by simp
  rw [e] at a
  have b := a.swap.lay (fun x hx => by
    rcases List.mem_cons.1 hx with rfl | h
    · dsimp only; omega
    · exact s.newer x h) y
  exact b.swap.lay (fun x hx => by
    rcases List.mem_cons.1 hx with rfl | h
    · dsimp only; omega
    · have := (s.B x h).2.2.lt; omega) k
end
end Go.Proofs.Ytplffehgjdinnaa
