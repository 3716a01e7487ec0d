/- A flag, one cell of memory, that calls may set: what holds of every world after such a call. Nothing of a program is used. -/
import Derived.Test.YtahedampmjfoeaaInv
namespace Go.Proofs.Ytahedampmjfoeaa
open Go.RowKit

/-- The flag: at ⟨p, o⟩ lies h, and it may be written. -/
structure Fl (p o : Nat) (h : Bool) (w : World) : Prop where
  cell : w.cell? ⟨p, o, none⟩ = some (.bool h)
  free : w.frozen? ⟨p, o, none⟩ = false
  lt : p < w.heap.size
/-- Between w and w' the flag became h; of what w held nothing else has changed. -/
structure FlW (p o : Nat) (h : Bool) (w w' : World) : Prop where
  out : Below w.heap.size (w.setCell ⟨p, o, none⟩ (.bool h)) w'

theorem size_set (w : World) (a : Addr) (v : Value) : (w.setCell a v).heap.size = w.heap.size := by simp [World.setCell]
theorem block_cell {w : World} {p o : Nat} {h : Value} (hc : w.cell? ⟨p, o, none⟩ = some h) : ∃ c t f, w.heap[p]? = some (.cells c t f) ∧ c[o]? = some h := by
  unfold World.cell? at hc
  split at hc
  · rename_i c t f hb
    exact ⟨c, t, f, hb, by simpa using hc⟩
  · cases hc
theorem set_block {w : World} {p o : Nat} {c : Array Value} {t : TypeId} {f : Nat × Nat} (hb : w.heap[p]? = some (.cells c t f)) (v : Value) : (w.setCell ⟨p, o, none⟩ v).heap[p]? = some (.cells (c.setIfInBounds o v) t f) := by
  simp [World.setCell, Array.getElem?_modify, hb]
theorem set_cell_same {w : World} {p o : Nat} {h : Value} (hc : w.cell? ⟨p, o, none⟩ = some h) (v : Value) : (w.setCell ⟨p, o, none⟩ v).cell? ⟨p, o, none⟩ = some v := by
  obtain ⟨c, t, f, hb, hget⟩ := block_cell hc
  have ho : o < c.size := by
    rcases Nat.lt_or_ge o c.size with h1 | h1
    · exact h1
    · rw [Array.getElem?_eq_none_iff.2 h1] at hget; cases hget
  unfold World.cell?
  rw [set_block hb v]
  simp [Array.getElem?_setIfInBounds, ho]
theorem set_cell_other {w : World} {p o b i : Nat} (hne : b ≠ p ∨ i ≠ o) (v : Value) : (w.setCell ⟨p, o, none⟩ v).cell? ⟨b, i, none⟩ = w.cell? ⟨b, i, none⟩ :=
  World.cell?_setCell_other _ _ _ _ (fun e => by have h1 := congrArg Addr.block e; have h2 := congrArg Addr.off e; simp at h1 h2; rcases hne with h | h <;> omega)
theorem set_frozen (w : World) (p o b i : Nat) (v : Value) : (w.setCell ⟨p, o, none⟩ v).frozen? ⟨b, i, none⟩ = w.frozen? ⟨b, i, none⟩ := by
  have := World.frozen?_setCells p [v] o w ⟨b, i, none⟩
  exact this

theorem FlW.size {p o : Nat} {h : Bool} {w w' : World} (k : FlW p o h w w') : w.heap.size ≤ w'.heap.size := by have := k.out.size; rwa [size_set] at this
theorem FlW.fl {p o : Nat} {h g : Bool} {w w' : World} (f : Fl p o g w) (k : FlW p o h w w') : Fl p o h w' :=
  ⟨by rw [k.out.cell (p := ⟨p, o, none⟩) f.lt]; exact set_cell_same f.cell _, by rw [k.out.frozen (p := ⟨p, o, none⟩) f.lt, set_frozen]; exact f.free, Nat.lt_of_lt_of_le f.lt k.size⟩
theorem FlW.cell {p o : Nat} {h : Bool} {w w' : World} (k : FlW p o h w w') {b i : Nat} (hb : b < w.heap.size) (hne : b ≠ p ∨ i ≠ o) : w'.cell? ⟨b, i, none⟩ = w.cell? ⟨b, i, none⟩ := by
  rw [k.out.cell (p := ⟨b, i, none⟩) hb]; exact set_cell_other hne _
theorem FlW.frozen {p o : Nat} {h : Bool} {w w' : World} (k : FlW p o h w w') {b i : Nat} (hb : b < w.heap.size) : w'.frozen? ⟨b, i, none⟩ = w.frozen? ⟨b, i, none⟩ := by
  rw [k.out.frozen (p := ⟨b, i, none⟩) hb]; exact set_frozen _ _ _ _ _ _
theorem FlW.block {p o : Nat} {h : Bool} {w w' : World} (k : FlW p o h w w') {b : Nat} (hb : b < w.heap.size) (hne : b ≠ p) : w'.heap[b]? = w.heap[b]? := by
  rw [k.out.block b hb, Below.heap_setCell _ _ _ _ hne]
theorem set_again (w : World) (p o : Nat) (u v : Value) (b : Nat) : ((w.setCell ⟨p, o, none⟩ u).setCell ⟨p, o, none⟩ v).heap[b]? = (w.setCell ⟨p, o, none⟩ v).heap[b]? := by
  by_cases h : b = p
  · subst h
    cases hb : w.heap[b]? with
    | none => simp [World.setCell, Array.getElem?_modify, hb]
    | some x => cases x <;> simp [World.setCell, Array.getElem?_modify, hb]
  · rw [Below.heap_setCell _ _ _ _ h, Below.heap_setCell _ _ _ _ h, Below.heap_setCell _ _ _ _ h]
theorem set_heap_congr {w w' : World} {p o : Nat} {v : Value} {b : Nat} (h : w'.heap[b]? = w.heap[b]?) : (w'.setCell ⟨p, o, none⟩ v).heap[b]? = (w.setCell ⟨p, o, none⟩ v).heap[b]? := by
  simp only [World.setCell, Array.getElem?_modify, h]
theorem FlW.set {p o : Nat} (h : Bool) (w : World) : FlW p o h w (w.setCell ⟨p, o, none⟩ (.bool h)) := ⟨Below.refl _ _⟩
theorem FlW.refl {p o : Nat} {h : Bool} {w : World} (f : Fl p o h w) : FlW p o h w w := by
  refine ⟨⟨rfl, rfl, rfl, by rw [size_set]; exact Nat.le_refl _, fun b hb => ?_⟩⟩
  by_cases hp : b = p
  · subst hp
    obtain ⟨c, t, fr, hbk, hget⟩ := block_cell f.cell
    rw [set_block hbk, hbk]
    congr 2
    refine Array.ext_getElem? fun i => ?_
    rw [Array.getElem?_setIfInBounds]
    split
    · rename_i e; subst e
      split
      · exact hget
      · rename_i hl; rw [Array.getElem?_eq_none_iff.2 (by omega)]
    · rfl
  · rw [Below.heap_setCell _ _ _ _ hp]
theorem FlW.then {p o : Nat} {h : Bool} {w w1 w2 : World} (k : FlW p o h w w1) (hb : Below w1.heap.size w1 w2) : FlW p o h w w2 := ⟨k.out.trans (hb.mono k.size)⟩
theorem FlW.thenAt {p o N : Nat} {h : Bool} {w w1 w2 : World} (k : FlW p o h w w1) (hN : w.heap.size ≤ N) (hb : Below N w1 w2) : FlW p o h w w2 := ⟨k.out.trans (hb.mono hN)⟩
theorem FlW.trans {p o : Nat} {h g : Bool} {w w1 w2 : World} (k : FlW p o h w w1) (l : FlW p o g w1 w2) : FlW p o g w w2 := by
  refine ⟨⟨l.out.os.trans k.out.os, l.out.tape.trans k.out.tape, l.out.output.trans k.out.output, ?_, fun b hb => ?_⟩⟩
  · rw [size_set]; exact Nat.le_trans k.size l.size
  · rw [l.out.block b (Nat.lt_of_lt_of_le hb k.size), ← set_again w p o (.bool h) (.bool g) b]
    exact set_heap_congr (k.out.block b hb)
theorem FlW.after {p o : Nat} {h g : Bool} {w w1 w2 : World} (f : Fl p o g w) (hb : Below w.heap.size w w1) (l : FlW p o h w1 w2) : FlW p o h w w2 :=
  ((FlW.refl f).then hb).trans l
/-- Where the flag lies in a block that is newer than N, all below N is as it was. -/
theorem FlW.below {p o N : Nat} {h : Bool} {w w' : World} (k : FlW p o h w w') (hN : N ≤ w.heap.size) (hp : N ≤ p) : Below N w w' :=
  ((Below.refl N w).setCell (p := ⟨p, o, none⟩) hp (.bool h)).trans (k.out.mono hN)
theorem FlW.alloc {p o : Nat} {h : Bool} {w w1 : World} (k : FlW p o h w w1) (x : Obj) : FlW p o h w (w1.alloc x) := k.then ((Below.refl _ _).alloc (Nat.le_refl _) _)
theorem FlW.drew {p o : Nat} {h : Bool} {w w1 : World} (k : FlW p o h w w1) : FlW p o h w w1.drew := ⟨k.out.drew⟩
theorem FlW.other {p o b i : Nat} {h : Bool} {w w1 : World} (k : FlW p o h w w1) (hb : w.heap.size ≤ b) (v : Value) : FlW p o h w (w1.setCell ⟨b, i, none⟩ v) := ⟨k.out.setCell (p := ⟨b, i, none⟩) hb v⟩
theorem Fl.below {p o : Nat} {h : Bool} {w w1 : World} (f : Fl p o h w) (hb : Below w.heap.size w w1) : Fl p o h w1 := FlW.fl f ((FlW.refl f).then hb)
theorem Fl.alloc {p o : Nat} {h : Bool} {w : World} (f : Fl p o h w) (x : Obj) : Fl p o h (w.alloc x) := f.below ((Below.refl _ _).alloc (Nat.le_refl _) _)
theorem Fl.drew {p o : Nat} {h : Bool} {w : World} (f : Fl p o h w) : Fl p o h w.drew := ⟨f.cell, f.free, f.lt⟩
theorem Fl.made (w : World) (t : TypeId) (h : Bool) : Fl w.heap.size 0 h (w.alloc (.cells #[.bool h] t)) := by
  have e : (w.alloc (.cells #[.bool h] t)).heap[w.heap.size]? = some (.cells #[.bool h] t (0, 0)) := heap_alloc_new w _
  exact ⟨by rw [cell_of_row _ _ _ _ _ _ e]; rfl, by unfold World.frozen?; rw [e]; rfl, by simp⟩
theorem Fl.made_at (w : World) (t : TypeId) (h : Bool) {B : Nat} (hB : w.heap.size = B) : Fl B 0 h (w.alloc (.cells #[.bool h] t)) := by subst hB; exact Fl.made w t h
/-- As 'Ext', where the block p may change. -/
abbrev FExt (p : Nat) (W w' : World) : Prop := (∀ b i, b ≠ p → b < W.heap.size → w'.cell? ⟨b, i, none⟩ = W.cell? ⟨b, i, none⟩) ∧ W.heap.size ≤ w'.heap.size
theorem FExt.start0 (p : Nat) (W : World) : FExt p W W := ⟨fun _ _ _ _ => rfl, Nat.le_refl _⟩
theorem FExt.start (p : Nat) (W : World) : FExt p W W.drew := ⟨fun _ _ _ _ => by simp, Nat.le_refl _⟩
theorem FExt.drew {p : Nat} {W w1 : World} (h : FExt p W w1) : FExt p W w1.drew := ⟨fun b i hne hlt => by simpa using h.1 b i hne hlt, h.2⟩
theorem FExt.call {p : Nat} {W w1 w2 : World} (h : FExt p W w1) (hb : Below w1.heap.size w1 w2) : FExt p W w2 :=
  ⟨fun b i hne hlt => (hb.cell (p := ⟨b, i, none⟩) (Nat.lt_of_lt_of_le hlt h.2)).trans (h.1 b i hne hlt), Nat.le_trans h.2 hb.size⟩
theorem FExt.flag {p o : Nat} {g : Bool} {W w1 w2 : World} (h : FExt p W w1) (k : FlW p o g w1 w2) : FExt p W w2 :=
  ⟨fun b i hne hlt => (k.cell (Nat.lt_of_lt_of_le hlt h.2) (.inl hne)).trans (h.1 b i hne hlt), Nat.le_trans h.2 k.size⟩
theorem FExt.alloc {p : Nat} {W w1 : World} (h : FExt p W w1) (x : Obj) : FExt p W (w1.alloc x) := h.call ((Below.refl _ _).alloc (Nat.le_refl _) _)
theorem FExt.other {p : Nat} {W w1 : World} (h : FExt p W w1) {b : Nat} (hb : W.heap.size ≤ b) (i : Nat) (v : Value) : FExt p W (w1.setCell ⟨b, i, none⟩ v) :=
  ⟨fun b' i' hne hlt => (set_cell_other (.inl (by omega)) v).trans (h.1 b' i' hne hlt), by rw [size_set]; exact h.2⟩
end Go.Proofs.Ytahedampmjfoeaa
