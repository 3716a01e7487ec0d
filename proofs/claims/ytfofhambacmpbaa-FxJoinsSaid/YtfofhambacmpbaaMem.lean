/- Cells of memory in one list, carried from world to world. -/
import Derived.Test.YtfofhambacmpbaaFlag
namespace Go.Proofs.Ytfofhambacmpbaa
open Go.RowKit

theorem cellAt {N b i : Nat} {w w' : World} (h : Below N w w') (hb : b < N) : w'.cell? ⟨b, i, none⟩ = w.cell? ⟨b, i, none⟩ := h.cell (p := ⟨b, i, none⟩) hb
theorem i64_id (x : Int) (h1 : -9223372036854775808 ≤ x) (h2 : x ≤ 9223372036854775807) : IntKind.i64.wrap x = x := by
  rw [IntKind.wrap_i64]; omega
theorem alloc_old {w : World} {B : Nat} {o : Obj} (h : w.heap[B]? = some o) (x : Obj) : (w.alloc x).heap[B]? = some o := by
  have hl : B < w.heap.size := by
    rcases Nat.lt_or_ge B w.heap.size with h1 | h1
    · exact h1
    · rw [Array.getElem?_eq_none_iff.2 h1] at h; cases h
  rw [Below.heap_alloc _ _ _ hl]; exact h
theorem size_alloc (w : World) (o : Obj) : (w.alloc o).heap.size = w.heap.size + 1 := by simp
/-- All that X held is as it was. -/
abbrev BExt (X w' : World) : Prop := (∀ b o, b < X.heap.size → w'.cell? ⟨b, o, none⟩ = X.cell? ⟨b, o, none⟩) ∧ Below X.heap.size X w'
theorem BExt.of {X w' : World} (h : Below X.heap.size X w') : BExt X w' := ⟨fun b o hlt => h.cell (p := ⟨b, o, none⟩) hlt, h⟩
theorem BExt.start (X : World) : BExt X X.drew := .of (Below.refl _ _).drew
theorem BExt.start0 (X : World) : BExt X X := .of (Below.refl _ _)
theorem BExt.drew {X w1 : World} (h : BExt X w1) : BExt X w1.drew := .of h.2.drew
theorem BExt.call {X w1 w2 : World} (h : BExt X w1) (hb : Below w1.heap.size w1 w2) : BExt X w2 := .of (h.2.trans (hb.mono h.2.size))
theorem BExt.alloc {X w1 : World} (h : BExt X w1) (o : Obj) : BExt X (w1.alloc o) := .of (h.2.alloc h.2.size o)
theorem BExt.other {X w1 : World} (h : BExt X w1) {b i : Nat} (hb : X.heap.size ≤ b) (v : Value) : BExt X (w1.setCell ⟨b, i, none⟩ v) := .of (h.2.setCell (p := ⟨b, i, none⟩) hb v)
/-- The cells of the list hold what it says. -/
structure Mem (w : World) (L : List (Nat × Nat × Value)) : Prop where
  all : ∀ x ∈ L, x.1 < w.heap.size ∧ w.cell? ⟨x.1, x.2.1, none⟩ = some x.2.2
theorem Mem.nil (w : World) : Mem w [] := ⟨fun _ h => by cases h⟩
theorem Mem.cons {w : World} {L : List (Nat × Nat × Value)} {b i : Nat} {v : Value} (h : w.cell? ⟨b, i, none⟩ = some v) (m : Mem w L) : Mem w ((b, i, v) :: L) :=
  ⟨fun x hx => by
    rcases List.mem_cons.1 hx with rfl | hx
    · exact ⟨World.block_lt_of_cell? w ⟨b, i, none⟩ h, h⟩
    · exact m.all x hx⟩
theorem Mem.below {w w' : World} {L : List (Nat × Nat × Value)} (m : Mem w L) (hb : Below w.heap.size w w') : Mem w' L :=
  ⟨fun x hx => ⟨Nat.lt_of_lt_of_le (m.all x hx).1 hb.size, (cellAt hb (m.all x hx).1).trans (m.all x hx).2⟩⟩
theorem Mem.alloc {w : World} {L : List (Nat × Nat × Value)} (m : Mem w L) (o : Obj) : Mem (w.alloc o) L := m.below ((Below.refl _ _).alloc (Nat.le_refl _) o)
theorem Mem.drew {w : World} {L : List (Nat × Nat × Value)} (m : Mem w L) : Mem w.drew L := m.below (Below.refl _ _).drew
theorem Mem.set {w : World} {L : List (Nat × Nat × Value)} (m : Mem w L) {b i : Nat} (h : ∀ x ∈ L, x.1 ≠ b ∨ x.2.1 ≠ i) (v : Value) : Mem (w.setCell ⟨b, i, none⟩ v) L :=
  ⟨fun x hx => ⟨by rw [size_set]; exact (m.all x hx).1, (set_cell_other (h x hx) v).trans (m.all x hx).2⟩⟩
theorem Mem.flag {w w' : World} {L : List (Nat × Nat × Value)} {p o : Nat} {h : Bool} (m : Mem w L) (hp : ∀ x ∈ L, x.1 ≠ p) (k : FlW p o h w w') : Mem w' L :=
  ⟨fun x hx => ⟨Nat.lt_of_lt_of_le (m.all x hx).1 k.size, (k.cell (m.all x hx).1 (.inl (hp x hx))).trans (m.all x hx).2⟩⟩
theorem Mem.head {w : World} {L : List (Nat × Nat × Value)} {b i : Nat} {v : Value} (m : Mem w ((b, i, v) :: L)) : w.cell? ⟨b, i, none⟩ = some v := (m.all _ (List.mem_cons_self ..)).2
theorem Mem.lt {w : World} {L : List (Nat × Nat × Value)} {b i : Nat} {v : Value} (m : Mem w ((b, i, v) :: L)) : b < w.heap.size := (m.all _ (List.mem_cons_self ..)).1
theorem Mem.tail {w : World} {L : List (Nat × Nat × Value)} {x : Nat × Nat × Value} (m : Mem w (x :: L)) : Mem w L := ⟨fun y hy => m.all y (List.mem_cons_of_mem _ hy)⟩
theorem Mem.append {w : World} {L M : List (Nat × Nat × Value)} (m : Mem w L) (n : Mem w M) : Mem w (L ++ M) :=
  ⟨fun x hx => by
    rcases List.mem_append.1 hx with h | h
    · exact m.all x h
    · exact n.all x h⟩
/-- A new block's cells. -/
theorem Mem.made (w : World) (c : Array Value) (t : TypeId) {B : Nat} (hB : w.heap.size = B) : Mem (w.alloc (.cells c t)) (c.toList.zipIdx.map fun x => (B, x.2, x.1)) := by
  subst hB
  refine ⟨fun x hx => ?_⟩
  obtain ⟨y, hy, rfl⟩ := List.mem_map.1 hx
  have e : (w.alloc (.cells c t)).heap[w.heap.size]? = some (.cells c t (0, 0)) := heap_alloc_new w _
  refine ⟨by simp, ?_⟩
  rw [cell_of_row _ _ _ _ _ _ e]
  have := List.mem_zipIdx' hy
  obtain ⟨h1, h2⟩ := this
  simp at h1 h2
  rw [h2]
  simp [h1]
/-- A block that is known whole. -/
def Blk (w : World) (B : Nat) (c : Array Value) (t : TypeId) : Prop := w.heap[B]? = some (.cells c t (0, 0))
theorem Blk.lt {w : World} {B : Nat} {c : Array Value} {t : TypeId} (h : Blk w B c t) : B < w.heap.size := by
  rcases Nat.lt_or_ge B w.heap.size with h1 | h1
  · exact h1
  · have := (Array.getElem?_eq_none_iff.2 h1).symm.trans h
    cases this
theorem Blk.made (w : World) (c : Array Value) (t : TypeId) {B : Nat} (hB : w.heap.size = B) : Blk (w.alloc (.cells c t)) B c t := by subst hB; exact heap_alloc_new w _
theorem Blk.below {w w' : World} {B N : Nat} {c : Array Value} {t : TypeId} (h : Blk w B c t) (hb : Below N w w') (hB : B < N) : Blk w' B c t := (hb.block _ hB).trans h
theorem Blk.call {w w' : World} {B : Nat} {c : Array Value} {t : TypeId} (h : Blk w B c t) (hb : Below w.heap.size w w') : Blk w' B c t := h.below hb h.lt
theorem Blk.flag {w w' : World} {B p o : Nat} {f : Bool} {c : Array Value} {t : TypeId} (h : Blk w B c t) (hp : B ≠ p) (k : FlW p o f w w') : Blk w' B c t := (k.block h.lt hp).trans h
theorem Blk.alloc {w : World} {B : Nat} {c : Array Value} {t : TypeId} (h : Blk w B c t) (o : Obj) : Blk (w.alloc o) B c t := alloc_old h o
theorem Blk.drew {w : World} {B : Nat} {c : Array Value} {t : TypeId} (h : Blk w B c t) : Blk w.drew B c t := h
theorem Blk.other {w : World} {B b i : Nat} {c : Array Value} {t : TypeId} (h : Blk w B c t) (hb : B ≠ b) (v : Value) : Blk (w.setCell ⟨b, i, none⟩ v) B c t := (Below.heap_setCell _ _ _ _ hb).trans h
theorem Blk.set {w : World} {B i : Nat} {c : Array Value} {t : TypeId} (h : Blk w B c t) (v : Value) : Blk (w.setCell ⟨B, i, none⟩ v) B (c.setIfInBounds i v) t := set_block h v
theorem Blk.cell {w : World} {B : Nat} {c : Array Value} {t : TypeId} (h : Blk w B c t) (i : Nat) : w.cell? ⟨B, i, none⟩ = c[i]? := cell_of_row _ _ _ _ _ _ h
theorem Blk.free {w : World} {B : Nat} {c : Array Value} {t : TypeId} (h : Blk w B c t) (i : Nat) : w.frozen? ⟨B, i, none⟩ = false := by
  unfold World.frozen?
  rw [show w.heap[B]? = _ from h]
  simp
end Go.Proofs.Ytfofhambacmpbaa
