/- What a call changes of memory; slices of samples; samples read as one value. -/
import Derived.Test.YtdndomknjefgkaaRgN
import Derived.Deep.AppendSrc
import Derived.Laws.IdiomCopy
import Derived.Lib.Overlaps
import Derived.Lib.SliceRun
import Derived.Test.YtdndomknjefgkaaChecked
namespace Go.Proofs.Ytdndomknjefgkaa.Rg
open Go.RowKit

/-- Between w and w' nothing but the blocks of S has changed of what w held. -/
structure Tch (S : List Nat) (w w' : World) : Prop where
  os : w'.os = w.os
  tape : w'.tape = w.tape
  output : w'.output = w.output
  size : w.heap.size ≤ w'.heap.size
  block : ∀ b, b < w.heap.size → b ∉ S → w'.heap[b]? = w.heap[b]?
theorem Tch.refl (S : List Nat) (w : World) : Tch S w w := ⟨rfl, rfl, rfl, Nat.le_refl _, fun _ _ _ => rfl⟩
theorem Tch.of {w w' : World} (S : List Nat) (h : Below w.heap.size w w') : Tch S w w' := ⟨h.os, h.tape, h.output, h.size, fun b hb _ => h.block b hb⟩
theorem Tch.mono {S T : List Nat} {w w' : World} (h : Tch S w w') (hs : ∀ b, b ∈ S → b ∈ T ∨ w.heap.size ≤ b) : Tch T w w' :=
  ⟨h.os, h.tape, h.output, h.size, fun b hb hn => h.block b hb fun hm => (hs b hm).elim hn (fun k => by omega)⟩
theorem Tch.trans {S : List Nat} {w w1 w2 : World} (h : Tch S w w1) (k : Tch S w1 w2) : Tch S w w2 :=
  ⟨k.os.trans h.os, k.tape.trans h.tape, k.output.trans h.output, Nat.le_trans h.size k.size, fun b hb hn => (k.block b (Nat.lt_of_lt_of_le hb h.size) hn).trans (h.block b hb hn)⟩
theorem Tch.then {S T : List Nat} {w w1 w2 : World} (h : Tch S w w1) (k : Tch T w1 w2) (hs : ∀ b, b ∈ T → b ∈ S ∨ w.heap.size ≤ b) : Tch S w w2 :=
  ⟨k.os.trans h.os, k.tape.trans h.tape, k.output.trans h.output, Nat.le_trans h.size k.size, fun b hb hn => (k.block b (Nat.lt_of_lt_of_le hb h.size) fun hm => (hs b hm).elim hn (fun q => by omega)).trans (h.block b hb hn)⟩
theorem Tch.call {S : List Nat} {w w1 w2 : World} (h : Tch S w w1) (k : Below w1.heap.size w1 w2) : Tch S w w2 := h.trans (.of S k)
theorem Tch.drew {S : List Nat} {w w1 : World} (h : Tch S w w1) : Tch S w w1.drew := ⟨h.os, h.tape, h.output, h.size, h.block⟩
theorem Tch.alloc {S : List Nat} {w w1 : World} (h : Tch S w w1) (x : Obj) : Tch S w (w1.alloc x) := h.call ((Below.refl _ _).alloc (Nat.le_refl _) _)
theorem Tch.set {S : List Nat} {w w1 : World} (h : Tch S w w1) {b : Nat} (hb : b ∈ S ∨ w.heap.size ≤ b) (i : Nat) (v : Value) : Tch S w (w1.setCell ⟨b, i, none⟩ v) :=
  ⟨h.os, h.tape, h.output, by rw [size_set]; exact h.size, fun c hc hn => (Below.heap_setCell _ _ _ _ (fun e => by subst e; exact hb.elim hn (fun q => by omega))).trans (h.block c hc hn)⟩
theorem Tch.below {S : List Nat} {w w' : World} {N : Nat} (h : Tch S w w') (hN : N ≤ w.heap.size) (hs : ∀ b, b ∈ S → N ≤ b) : Below N w w' :=
  ⟨h.os, h.tape, h.output, h.size, fun b hb => h.block b (by omega) fun hm => by have := hs b hm; omega⟩
theorem Tch.blk {S : List Nat} {w w' : World} {B : Nat} {c : Array Value} {t : TypeId} (k : Tch S w w') (h : Blk w B c t) (hB : B ∉ S) : Blk w' B c t := (k.block B h.lt hB).trans h
theorem Tch.cell {S : List Nat} {w w' : World} (k : Tch S w w') {b i : Nat} (hb : b < w.heap.size) (hB : b ∉ S) : w'.cell? ⟨b, i, none⟩ = w.cell? ⟨b, i, none⟩ := by
  unfold World.cell?
  rw [show w'.heap[(⟨b, i, none⟩ : Addr).block]? = w.heap[(⟨b, i, none⟩ : Addr).block]? from k.block b hb hB]
theorem Tch.ints {S : List Nat} {w w' : World} {b o n : Nat} {f : Nat → Int} (k : Tch S w w') (h : Ints w b o n f) (hb : b < w.heap.size) (hB : b ∉ S) : Ints w' b o n f := ⟨fun i hi => (k.cell hb hB).trans (h.at_ i hi)⟩

/-- A sample's type behind a name, so that a walk does not open what it reads number by number. -/
structure OpS (T : TypeId) (N : Nat) : Prop where
  is : 56 = T
  nine : N = 9
  agg : ∀ w, Sem.run Try.prog (isAgg T) w = .ok true w
  size : ∀ w, Sem.run Try.prog (sizeOf T) w = .ok N w
  load : ∀ w b o f, Ints w b o 9 f → Sem.run Try.prog (loadCellsFrom ⟨b, o, none⟩ 0 N #[]) w = .ok (rowA 9 f) w
  len : ∀ f, (rowA 9 f).size = N
  guard : ∀ f g op x y w, Sem.run Try.prog (eqGuard op T x y (.agg (rowA 9 f)) (.agg (rowA 9 g))) w = .ok () w
  eql : ∀ f g w, Sem.run Try.prog (binOp .eql T (.agg (rowA 9 f)) (.agg (rowA 9 g))) w = .ok (.bool (eqB 9 f g)) w
  neq : ∀ f g w, Sem.run Try.prog (binOp .neq T (.agg (rowA 9 f)) (.agg (rowA 9 g))) w = .ok (.bool (!eqB 9 f g)) w
  eqv : ∀ f g w, Sem.run Try.prog (Op.equal T (.agg (rowA 9 f)) (.agg (rowA 9 g))) w = .ok (eqB 9 f g) w
theorem rowA_toList_get {n : Nat} (f : Nat → Int) {j : Nat} {v : Value} (h : (rowA n f).toList[j]? = some v) : j < n ∧ v = .int .i64 (f j) := by
  rw [Array.getElem?_toList] at h
  by_cases hj : j < n
  · rw [rowA_get _ hj] at h; injection h with h; exact ⟨hj, h.symm⟩
  · rw [rowA_none _ (by omega)] at h; cases h
theorem load_ints (P : Program) {w : World} {b o n : Nat} {f : Nat → Int} (h : Ints w b o n f) : Sem.run P (loadCellsFrom ⟨b, o, none⟩ 0 n #[]) w = .ok (rowA n f) w := by
  have hl := run_loadCells_list (P := P) w ⟨b, o, none⟩ (rowA n f).toList (fun j v hv => by
    obtain ⟨hj, rfl⟩ := rowA_toList_get f hv
    rw [show ((⟨b, o, none⟩ : Addr).add j) = ⟨b, o + j, none⟩ from Addr.add_mid b o j]
    exact h.at_ j hj)
  rw [Array.length_toList, rowA_size] at hl
  simpa [loadCells] using hl
theorem samFlat : SX.flatOk Try.prog 56 = some (List.replicate 9 true) := by kernel_rfl
theorem opS : ∃ T N, OpS T N := ⟨_, 9, rfl, rfl, fun w => by kernel_rfl, fun w => by kernel_rfl, fun _ _ _ _ h => load_ints _ h, fun f => rowA_size 9 f, fun f g op x y w => guard_row samFlat f g w op x y, fun f g w => eql_row samFlat f g w, fun f g w => neq_row samFlat f g w, fun f g w => equal_row samFlat f g w⟩
theorem eqB_sam {x y : Sam} (hx : x.length = 9) (hy : y.length = 9) : eqB 9 (fn x) (fn y) = (x == y) := by
  rw [Bool.eq_iff_iff, eqB_iff, beq_iff_eq]
  constructor
  · intro h
    refine List.ext_getElem (by omega) fun i h1 h2 => ?_
    have := h i (by omega)
    simpa [fn, h1, h2] using this
  · rintro rfl k _; rfl
theorem samSize : (Try.prog.info? 56).map (·.size) = some 9 := by kernel_rfl
theorem samInfo : (Try.prog.info? 56).map (fun i => (i.zero, i.size, i.bytes)) = some (some (.agg (rowA 9 fun _ => 0)), 9, 72) := by kernel_rfl
/-- A slice of samples: nothing, or the head of a block. -/
inductive Row (w : World) : Value → List Sam → Prop
  | nil : Row w (.slice none 0 0) []
  | lies (g cap : Nat) (F : Nat → Int) (l : List Sam) : Blk w g (rowA (9 * cap) F) 56 → l.length ≤ cap → cap ≤ maxLen → (∀ q, q < 9 * l.length → F q = fl l q) → Row w (.slice (some ⟨g, 0, none⟩) l.length cap) l
theorem Row.inv {w : World} {v : Value} {l : List Sam} (h : Row w v l) : (v = .slice none 0 0 ∧ l = []) ∨ ∃ g cap F, v = .slice (some ⟨g, 0, none⟩) l.length cap ∧ Blk w g (rowA (9 * cap) F) 56 ∧ l.length ≤ cap ∧ cap ≤ maxLen ∧ ∀ q, q < 9 * l.length → F q = fl l q := by
  cases h with
  | nil => exact .inl ⟨rfl, rfl⟩
  | lies g cap F l hb hc hm hF => exact .inr ⟨g, cap, F, rfl, hb, hc, hm, hF⟩
def own (v : Value) : List Nat := match v with
  | .slice (some a) _ _ => [a.block]
  | _ => []
theorem Row.lt {w : World} {v : Value} {l : List Sam} (h : Row w v l) : ∀ b, b ∈ own v → b < w.heap.size := by
  cases h with
  | nil => intro b hb; simp [own] at hb
  | lies g cap F l hb _ _ _ => intro b hm; simp [own] at hm; subst hm; exact hb.lt
theorem Row.keep {S : List Nat} {w w' : World} {v : Value} {l : List Sam} (h : Row w v l) (k : Tch S w w') (hd : ∀ b, b ∈ own v → b ∉ S) : Row w' v l := by
  cases h with
  | nil => exact .nil
  | lies g cap F l hb hc hm hF => exact .lies g cap F l (k.blk hb (hd g (by simp [own]))) hc hm hF
theorem Row.ints {w : World} {g o n cap : Nat} {l : List Sam} (h : Row w (.slice (some ⟨g, o, none⟩) n cap) l) : o = 0 ∧ n = l.length ∧ g < w.heap.size ∧ Ints w g 0 (9 * l.length) (fl l) := by
  cases h with
  | lies g cap F l hb hc hm hF => exact ⟨rfl, rfl, hb.lt, ⟨fun i hi => by rw [Nat.zero_add, hb.cell, rowA_get _ (by omega), hF i hi]⟩⟩
theorem Ints.sam {w : World} {g o : Nat} {l : List Sam} (h : Ints w g o (9 * l.length) (fl l)) {i : Nat} (hi : i < l.length) : Ints w g (o + 9 * i) 9 (fn (l.getD i [])) :=
  ⟨fun j hj => by rw [Nat.add_assoc, h.at_ (9 * i + j) (by omega), fl_at l i j hj]⟩
/-- Compared number by number. -/
def cmpF (f g : Nat → Int) : Nat → Nat → Int
  | _, 0 => 0
  | i, n + 1 => if f i < g i then -1 else if g i < f i then 1 else cmpF f g (i + 1) n
theorem cmpF_shift (f g : Nat → Int) : ∀ n i, cmpF f g (i + 1) n = cmpF (fun j => f (j + 1)) (fun j => g (j + 1)) i n
  | 0, _ => rfl
  | n + 1, i => by unfold cmpF; rw [cmpF_shift f g n (i + 1)]
theorem cmpF_is : ∀ (x y : Sam), x.length = y.length → cmpF (fn x) (fn y) 0 x.length = cmpS x y
  | [], [], _ => rfl
  | a :: x, b :: y, h => by
    have ih := cmpF_is x y (by simpa using h)
    rw [List.length_cons]
    unfold cmpF
    rw [cmpF_shift]
    have e : ∀ (c : Int) (z : Sam), (fun j => fn (c :: z) (j + 1)) = fn z := fun c z => by funext j; simp [fn]
    rw [e, e, ih]
    have f0 : fn (a :: x) 0 = a := rfl
    have g0 : fn (b :: y) 0 = b := rfl
    rw [f0, g0]
    unfold cmpS
    rw [show lt (a :: x) (b :: y) = if a = b then lt x y else decide (a < b) from rfl, show lt (b :: y) (a :: x) = if b = a then lt y x else decide (b < a) from rfl]
    by_cases h1 : a = b
    · subst h1; simp
    · rw [if_neg h1, if_neg (Ne.symm h1)]
      by_cases h2 : a < b
      · rw [if_pos h2]; simp [h2]
      · rw [if_neg h2, if_pos (by omega)]; simp [h2]; omega
  | [], _ :: _, h => by simp at h
  | _ :: _, [], h => by simp at h
end Go.Proofs.Ytdndomknjefgkaa.Rg
