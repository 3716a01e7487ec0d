/- Memory: small facts; rows of whole numbers; values compared cell by cell. Nothing of a program is used. -/
import Derived.WalkKit
import Derived.WalkLawsBesides
import Derived.WalkSpells
import Derived.Laws.Rows
import Derived.Lib.Hide
import Derived.WalkSmall
import Derived.Laws.Bits64b
import Derived.Deep.MidRow
import Derived.Deep.QuietTactic
import Derived.BigQuiet
import Derived.StillTailTactics
import Derived.Deep.LoopGhost
import Derived.Deep.RegionHeld3
import Derived.Deep.RegionWith
import Derived.Deep.Cut
import Derived.OrdersHeld
import Derived.LoopN

namespace Go.Proofs.Ytdndomknjefgkaa
open Go.RowKit

/-- Digit i of n to the base 2^32. -/
def dg (n : Nat) (i : Nat) : Int := ((n / 4294967296 ^ i % 4294967296 : Nat) : Int)
theorem dg_lo (n i : Nat) : 0 ≤ dg n i := by unfold dg; omega
theorem dg_hi (n i : Nat) : dg n i ≤ 4294967295 := by unfold dg; omega
def row8 (f : Nat → Int) : Array Value := #[.int .u64 (f 0), .int .u64 (f 1), .int .u64 (f 2), .int .u64 (f 3), .int .u64 (f 4), .int .u64 (f 5), .int .u64 (f 6), .int .u64 (f 7)]
theorem row8_get (f : Nat → Int) (j : Nat) (h : j < 8) : (row8 f)[j]? = some (.int .u64 (f j)) := by
  match j, h with
  | 0, _ => rfl
  | 1, _ => rfl
  | 2, _ => rfl
  | 3, _ => rfl
  | 4, _ => rfl
  | 5, _ => rfl
  | 6, _ => rfl
  | 7, _ => rfl
theorem row8_congr (f g : Nat → Int) (h : ∀ j, j < 8 → f j = g j) : row8 f = row8 g := by
  unfold row8
  rw [h 0 (by omega), h 1 (by omega), h 2 (by omega), h 3 (by omega), h 4 (by omega), h 5 (by omega), h 6 (by omega), h 7 (by omega)]
/-- The block B holds eight numbers. -/
def Has8 (w : World) (t : TypeId) (B : Nat) (f : Nat → Int) : Prop := w.heap[B]? = some (.cells (row8 f) t (0, 0))
theorem Has8.cell {w : World} {t : TypeId} {B : Nat} {f : Nat → Int} (h : Has8 w t B f) (j : Nat) (hj : j < 8) : w.cell? ⟨B, j, none⟩ = some (.int .u64 (f j)) := by
  rw [cell_of_row w B j _ t _ h, row8_get f j hj]
theorem Has8.free {w : World} {t : TypeId} {B : Nat} {f : Nat → Int} (h : Has8 w t B f) (j : Nat) : w.frozen? ⟨B, j, none⟩ = false := by
  simp [World.frozen?, show w.heap[B]? = _ from h]
theorem Has8.drew {w : World} {t : TypeId} {B : Nat} {f : Nat → Int} (h : Has8 w t B f) : Has8 w.drew t B f := h
theorem Has8.drewN {w : World} {t : TypeId} {B n : Nat} {f : Nat → Int} (h : Has8 w t B f) : Has8 (w.drewN n) t B f := by
  induction n generalizing w with
  | zero => exact h
  | succ n ih => exact ih (w := w.drew) h
theorem Has8.lt {w : World} {t : TypeId} {B : Nat} {f : Nat → Int} (h : Has8 w t B f) : B < w.heap.size := by
  rcases Nat.lt_or_ge B w.heap.size with h1 | h1
  · exact h1
  · have := (Array.getElem?_eq_none_iff.2 h1).symm.trans h
    cases this
theorem Has8.alloc {w : World} {t : TypeId} {B : Nat} {f : Nat → Int} (h : Has8 w t B f) (o : Obj) : Has8 (w.alloc o) t B f := by
  unfold Has8
  rw [Below.heap_alloc w o B h.lt]; exact h
theorem Has8.made (w : World) (t : TypeId) (f : Nat → Int) : Has8 (w.alloc (.cells (row8 f) t)) t w.heap.size f := heap_alloc_new w _
theorem Has8.other {w : World} {t : TypeId} {B : Nat} {f : Nat → Int} (h : Has8 w t B f) {a : Addr} (ha : B ≠ a.block) (v : Value) : Has8 (w.setCell a v) t B f := by
  unfold Has8
  rw [Below.heap_setCell _ _ _ _ ha]; exact h
theorem Has8.below {w w' : World} {t : TypeId} {B N : Nat} {f : Nat → Int} (h : Has8 w t B f) (hb : Below N w w') (hB : B < N) : Has8 w' t B f := (hb.block B hB).trans h
theorem Has8.congr {w : World} {t : TypeId} {B : Nat} {f g : Nat → Int} (h : Has8 w t B f) (e : ∀ j, j < 8 → f j = g j) : Has8 w t B g := by
  unfold Has8 at *
  rw [h, row8_congr f g e]
def upd (f : Nat → Int) (k : Nat) (v : Int) : Nat → Int := fun j => if j = k then v else f j
theorem Has8.set {w : World} {t : TypeId} {B : Nat} {f : Nat → Int} (h : Has8 w t B f) (k : Nat) (hk : k < 8) (v : Int) : Has8 (w.setCell ⟨B, k, none⟩ (.int .u64 v)) t B (upd f k v) := by
  unfold Has8 World.setCell at *
  simp only [Array.getElem?_modify, if_pos, h, Option.map_some]
  match k, hk with
  | 0, _ => rfl
  | 1, _ => rfl
  | 2, _ => rfl
  | 3, _ => rfl
  | 4, _ => rfl
  | 5, _ => rfl
  | 6, _ => rfl
  | 7, _ => rfl
theorem Has8.cells {w : World} {t : TypeId} {B : Nat} {f : Nat → Int} (h : Has8 w t B f) :
    w.cell? ⟨B, 0, none⟩ = some (.int .u64 (f 0)) ∧ w.cell? ⟨B, 1, none⟩ = some (.int .u64 (f 1)) ∧ w.cell? ⟨B, 2, none⟩ = some (.int .u64 (f 2)) ∧ w.cell? ⟨B, 3, none⟩ = some (.int .u64 (f 3)) ∧
    w.cell? ⟨B, 4, none⟩ = some (.int .u64 (f 4)) ∧ w.cell? ⟨B, 5, none⟩ = some (.int .u64 (f 5)) ∧ w.cell? ⟨B, 6, none⟩ = some (.int .u64 (f 6)) ∧ w.cell? ⟨B, 7, none⟩ = some (.int .u64 (f 7)) :=
  ⟨h.cell 0 (by omega), h.cell 1 (by omega), h.cell 2 (by omega), h.cell 3 (by omega), h.cell 4 (by omega), h.cell 5 (by omega), h.cell 6 (by omega), h.cell 7 (by omega)⟩
theorem Has8.made_at (w : World) (t : TypeId) {B : Nat} (hB : w.heap.size = B) (f : Nat → Int) : Has8 (w.alloc (.cells (row8 f) t)) t B f := by subst hB; exact Has8.made w t f
theorem and_mask (x : Int) (h0 : 0 ≤ x) (h1 : x < 18446744073709551616) : bits .and .u64 x 4294967295 = x % 4294967296 := by
  obtain ⟨a, rfl⟩ := Int.eq_ofNat_of_zero_le h0
  have h := bits_and_u64_nat a 4294967295 (by omega) (by omega)
  have e : a &&& 4294967295 = a % 4294967296 := Nat.and_two_pow_sub_one_eq_mod a 32
  rw [e] at h
  exact h

abbrev A8 (n : Nat) : Value := .agg #[.int .u64 (dg n 0), .int .u64 (dg n 1), .int .u64 (dg n 2), .int .u64 (dg n 3), .int .u64 (dg n 4), .int .u64 (dg n 5), .int .u64 (dg n 6), .int .u64 (dg n 7)]
end Go.Proofs.Ytdndomknjefgkaa
namespace Go.Proofs.Ytdndomknjefgkaa
open Go.RowKit
abbrev BgR (s : Bool) (n : Nat) : Value := .agg #[.bool s, .int .u64 (dg n 0), .int .u64 (dg n 1), .int .u64 (dg n 2), .int .u64 (dg n 3), .int .u64 (dg n 4), .int .u64 (dg n 5), .int .u64 (dg n 6), .int .u64 (dg n 7)]
theorem ret_bool {a b : Bool} (h : a = b) : Ending.returned (.bool a) = .returned (.bool b) := by rw [h]

theorem bcell {W w1 : World} (hb : Below W.heap.size W w1) : (∀ b o, b < W.heap.size → w1.cell? ⟨b, o, none⟩ = W.cell? ⟨b, o, none⟩) ∧ (∀ b o, b < W.heap.size → w1.frozen? ⟨b, o, none⟩ = W.frozen? ⟨b, o, none⟩) :=
  ⟨fun b o h => hb.cell (p := ⟨b, o, none⟩) h, fun b o h => hb.frozen (p := ⟨b, o, none⟩) h⟩
theorem Below.undrew {W w1 : World} (hb : Below W.drew.heap.size W.drew w1) : Below W.heap.size W w1 := ⟨hb.os, hb.tape, hb.output, hb.size, hb.block⟩
theorem Below.setCells {B : Nat} {a : World} {b : Nat} (hB : B ≤ b) : ∀ (vs : List Value) (o : Nat) (w : World), Below B a w → Below B a (w.setCells b o vs)
  | [], _, _, h => h
  | v :: r, o, w, h => by rw [World.setCells]; exact Below.setCells hB r (o + 1) _ (h.setCell hB v)
theorem Below.set2 {B : Nat} {a w : World} {b : Nat} (hB : B ≤ b) (h : Below B a w) (v0 v1 : Value) : Below B a ((w.setCell ⟨b, 0, none⟩ v0).setCell ⟨b, 1, none⟩ v1) := ((h.setCell hB _).setCell hB _)
theorem Below.set8 {B : Nat} {a w : World} {b : Nat} (hB : B ≤ b) (h : Below B a w) (v0 v1 v2 v3 v4 v5 v6 v7 : Value) : Below B a ((((((((w.setCell ⟨b, 0, none⟩ v0).setCell ⟨b, 1, none⟩ v1).setCell ⟨b, 2, none⟩ v2).setCell ⟨b, 3, none⟩ v3).setCell ⟨b, 4, none⟩ v4).setCell ⟨b, 5, none⟩ v5).setCell ⟨b, 6, none⟩ v6).setCell ⟨b, 7, none⟩ v7) := ((((((((h.setCell hB _).setCell hB _).setCell hB _).setCell hB _).setCell hB _).setCell hB _).setCell hB _).setCell hB _)
theorem Below.set9 {B : Nat} {a w : World} {b : Nat} (hB : B ≤ b) (h : Below B a w) (v0 v1 v2 v3 v4 v5 v6 v7 v8 : Value) : Below B a (((((((((w.setCell ⟨b, 0, none⟩ v0).setCell ⟨b, 1, none⟩ v1).setCell ⟨b, 2, none⟩ v2).setCell ⟨b, 3, none⟩ v3).setCell ⟨b, 4, none⟩ v4).setCell ⟨b, 5, none⟩ v5).setCell ⟨b, 6, none⟩ v6).setCell ⟨b, 7, none⟩ v7).setCell ⟨b, 8, none⟩ v8) := (((((((((h.setCell hB _).setCell hB _).setCell hB _).setCell hB _).setCell hB _).setCell hB _).setCell hB _).setCell hB _).setCell hB _)
theorem heap_setCells (b : Nat) : ∀ (vs : List Value) (o : Nat) (w : World), (w.setCells b o vs).heap.size = w.heap.size
  | [], _, _ => rfl
  | v :: r, o, w => by rw [World.setCells, heap_setCells b r (o + 1)]; simp [World.setCell]

/-- What the cell holds. -/
def atv (w : World) (b o : Nat) : Value := (w.cell? ⟨b, o, none⟩).getD undef
theorem cell_atv {w : World} {b o : Nat} (h : (w.cell? ⟨b, o, none⟩).isSome = true) : w.cell? ⟨b, o, none⟩ = some (atv w b o) := by
  unfold atv
  obtain ⟨v, hv⟩ := Option.isSome_iff_exists.1 h
  rw [hv]; rfl
/-- w: as the call began; W: as the statement began; R: the result's block, of n cells. -/
abbrev Inv (w W : World) (R n : Nat) (w' : World) : Prop :=
  (∀ b o, b ≠ R → b < W.heap.size → w'.cell? ⟨b, o, none⟩ = W.cell? ⟨b, o, none⟩) ∧ (∀ o, o < n → w'.cell? ⟨R, o, none⟩ = some (atv w' R o)) ∧ (∀ o, o < n → w'.frozen? ⟨R, o, none⟩ = false) ∧ Below w.heap.size w w' ∧ W.heap.size ≤ w'.heap.size
theorem Inv.start {w W : World} {R n : Nat} (h1 : W.there R 0 n) (h2 : Below w.heap.size w W) : Inv w W R n W.drew :=
  ⟨fun _ _ _ _ => by simp, fun o ho => cell_atv (by have := (h1 o ho).1; simpa using this), fun o ho => by have := (h1 o ho).2; simpa using this, h2.drew, Nat.le_refl _⟩
theorem Inv.start0 {w W : World} {R n : Nat} (h1 : W.there R 0 n) (h2 : Below w.heap.size w W) : Inv w W R n W :=
  ⟨fun _ _ _ _ => rfl, fun o ho => cell_atv (by have := (h1 o ho).1; simpa using this), fun o ho => by have := (h1 o ho).2; simpa using this, h2, Nat.le_refl _⟩
theorem Inv.drew {w W w1 : World} {R n : Nat} (h : Inv w W R n w1) : Inv w W R n w1.drew := by
  obtain ⟨h1, h2, h3, h4, h5⟩ := h
  exact ⟨fun b o hne hlt => by simpa using h1 b o hne hlt, fun j hj => cell_atv (by have := h2 j hj; simp at this ⊢; rw [this]; rfl), fun j hj => by simpa using h3 j hj, h4.drew, h5⟩
theorem Inv.call {w W w1 w2 : World} {R n : Nat} (hR : R < W.heap.size) (hw : w.heap.size ≤ W.heap.size) (h : Inv w W R n w1) (hb : Below w1.heap.size w1 w2) : Inv w W R n w2 := by
  obtain ⟨h1, h2, h3, h4, h5⟩ := h
  refine ⟨fun b o hne hlt => ?_, fun j hj => ?_, fun j hj => ?_, h4.trans (hb.mono (by omega)), Nat.le_trans h5 hb.size⟩
  · rw [hb.cell (p := ⟨b, o, none⟩) (by show b < _; omega)]; exact h1 b o hne hlt
  · refine cell_atv ?_
    rw [hb.cell (p := ⟨R, j, none⟩) (by show R < _; omega), h2 j hj]; rfl
  · rw [hb.frozen (p := ⟨R, j, none⟩) (by show R < _; omega), h3 j hj]
theorem Inv.set {w W w1 : World} {R n : Nat} (hw : w.heap.size ≤ R) (o : Nat) (v : Value) (h : Inv w W R n w1) : Inv w W R n (w1.setCell ⟨R, o, none⟩ v) := by
  obtain ⟨h1, h2, h3, h4, h5⟩ := h
  refine ⟨fun b o' hne hlt => ?_, fun j hj => ?_, fun j hj => ?_, h4.setCell hw v, by simpa [World.setCell] using h5⟩
  · rw [World.cell?_setCell_other _ _ _ _ (fun e => hne (by have := congrArg Addr.block e; exact this.symm))]
    exact h1 b o' hne hlt
  · refine cell_atv ?_
    have := World.isSome_setCells R [v] o w1 ⟨R, j, none⟩ (by rw [h2 j hj]; rfl)
    exact this
  · have := World.frozen?_setCells R [v] o w1 ⟨R, j, none⟩
    exact this.trans (h3 j hj)
theorem Inv.alloc {w W w1 : World} {R n : Nat} (hR : R < W.heap.size) (hw : w.heap.size ≤ W.heap.size) (h : Inv w W R n w1) (o : Obj) : Inv w W R n (w1.alloc o) :=
  Inv.call hR hw h ((Below.refl _ _).alloc (Nat.le_refl _) o)
theorem Inv.other {w W w1 : World} {R n : Nat} (hR : R < W.heap.size) (hw : w.heap.size ≤ W.heap.size) (h : Inv w W R n w1) {b : Nat} (hb : W.heap.size ≤ b) (o : Nat) (v : Value) : Inv w W R n (w1.setCell ⟨b, o, none⟩ v) := by
  obtain ⟨h1, h2, h3, h4, h5⟩ := h
  have hne : ∀ b' o', b' < W.heap.size → (⟨b, o, none⟩ : Addr) ≠ ⟨b', o', none⟩ := fun b' o' hlt e => by have := congrArg Addr.block e; simp at this; omega
  refine ⟨fun b' o' hne' hlt => ?_, fun j hj => ?_, fun j hj => ?_, h4.setCell (by show _ ≤ b; omega) v, by simpa [World.setCell] using h5⟩
  · rw [World.cell?_setCell_other _ _ _ _ (hne b' o' hlt)]; exact h1 b' o' hne' hlt
  · refine cell_atv ?_
    rw [World.cell?_setCell_other _ _ _ _ (hne R j hR), h2 j hj]; rfl
  · have := World.frozen?_setCells b [v] o w1 ⟨R, j, none⟩
    exact this.trans (h3 j hj)

/-- As 'Inv', without a result's block. -/
abbrev Ext (w W : World) (w' : World) : Prop := (∀ b o, b < W.heap.size → w'.cell? ⟨b, o, none⟩ = W.cell? ⟨b, o, none⟩) ∧ Below w.heap.size w w' ∧ W.heap.size ≤ w'.heap.size
theorem Ext.start {w W : World} (h2 : Below w.heap.size w W) : Ext w W W.drew := ⟨fun _ _ _ => by simp, h2.drew, Nat.le_refl _⟩
theorem Ext.start0 {w W : World} (h2 : Below w.heap.size w W) : Ext w W W := ⟨fun _ _ _ => rfl, h2, Nat.le_refl _⟩
theorem Ext.drew {w W w1 : World} (h : Ext w W w1) : Ext w W w1.drew := ⟨fun b o hlt => by simpa using h.1 b o hlt, h.2.1.drew, h.2.2⟩
theorem Ext.call {w W w1 w2 : World} (hw : w.heap.size ≤ W.heap.size) (h : Ext w W w1) (hb : Below w1.heap.size w1 w2) : Ext w W w2 := by
  obtain ⟨h1, h4, h5⟩ := h
  refine ⟨fun b o hlt => ?_, h4.trans (hb.mono (by omega)), Nat.le_trans h5 hb.size⟩
  rw [hb.cell (p := ⟨b, o, none⟩) (by show b < _; omega)]; exact h1 b o hlt
theorem Ext.alloc {w W w1 : World} (hw : w.heap.size ≤ W.heap.size) (h : Ext w W w1) (o : Obj) : Ext w W (w1.alloc o) :=
  Ext.call hw h ((Below.refl _ _).alloc (Nat.le_refl _) o)
theorem Ext.other {w W w1 : World} (hw : w.heap.size ≤ W.heap.size) (h : Ext w W w1) {b : Nat} (hb : W.heap.size ≤ b) (o : Nat) (v : Value) : Ext w W (w1.setCell ⟨b, o, none⟩ v) := by
  obtain ⟨h1, h4, h5⟩ := h
  have hne : ∀ b' o', b' < W.heap.size → (⟨b, o, none⟩ : Addr) ≠ ⟨b', o', none⟩ := fun b' o' hlt e => by have := congrArg Addr.block e; simp at this; omega
  refine ⟨fun b' o' hlt => ?_, h4.setCell (by show _ ≤ b; omega) v, by simpa [World.setCell] using h5⟩
  rw [World.cell?_setCell_other _ _ _ _ (hne b' o' hlt)]; exact h1 b' o' hlt
theorem results_mid {P : Program} {fn : Func} {p : Tmp} {ty : TypeId} (h : fn.results = #[.cell p ty]) (tmps : Array Value) (w : World) (g : Nat) (cs : List Value) (d : TypeDesc)
    (hp : tmps.getD p undef = .pointer (some ⟨g, 0, none⟩)) (hc : w.rangeAt g 0 cs)
    (hu : P.underlying ty = some d) (hd : d.isRow = true) (hi : (P.info? ty).map (·.size) = some cs.length) :
    (results fn tmps).run P w = .ok (.agg cs.toArray) w := by
  have hp' : tmps[p]?.getD undef = .pointer (some ⟨g, 0, none⟩) := by simpa using hp
  simp [results, h, hp', asAddr, run_loadVar_mid w g 0 ty cs d hc hu hd hi]
/-- A new block's cells are there. -/
theorem there_of_row {w : World} {R : Nat} {C : Array Value} {t : TypeId} (h : w.heap[R]? = some (.cells C t (0, 0))) (n : Nat) (hn : n ≤ C.size) : w.there R 0 n := fun j hj => by
  rw [cell_of_row w R (0 + j) C t _ h]
  refine ⟨?_, by simp [World.frozen?, h]⟩
  rw [Array.getElem?_eq_getElem (by omega)]; rfl
end Go.Proofs.Ytdndomknjefgkaa
namespace Go.Proofs.Ytdndomknjefgkaa
open Go.RowKit

/-- The flag: at ⟨p, o⟩ lies h, and it may be written. -/
structure Fl (p o : Nat) (h : Bool) (w : World) : Prop where
  cell : w.cell? ⟨p, o, none⟩ = some (.bool h)
  free : w.frozen? ⟨p, o, none⟩ = false
  lt : p < w.heap.size
/-- Between w and w' the flag became h; of what w held nothing else has changed. -/
structure FlW (p o : Nat) (h : Bool) (w w' : World) : Prop where
  out : Below w.heap.size (w.setCell ⟨p, o, none⟩ (.bool h)) w'

theorem size_set (w : World) (a : Addr) (v : Value) : (w.setCell a v).heap.size = w.heap.size := by simp [World.setCell]
theorem block_cell {w : World} {p o : Nat} {h : Value} (hc : w.cell? ⟨p, o, none⟩ = some h) : ∃ c t f, w.heap[p]? = some (.cells c t f) ∧ c[o]? = some h := by
  unfold World.cell? at hc
  split at hc
  · rename_i c t f hb
    exact ⟨c, t, f, hb, by simpa using hc⟩
  · cases hc
theorem set_block {w : World} {p o : Nat} {c : Array Value} {t : TypeId} {f : Nat × Nat} (hb : w.heap[p]? = some (.cells c t f)) (v : Value) : (w.setCell ⟨p, o, none⟩ v).heap[p]? = some (.cells (c.setIfInBounds o v) t f) := by
  simp [World.setCell, Array.getElem?_modify, hb]
theorem set_cell_same {w : World} {p o : Nat} {h : Value} (hc : w.cell? ⟨p, o, none⟩ = some h) (v : Value) : (w.setCell ⟨p, o, none⟩ v).cell? ⟨p, o, none⟩ = some v := by
  obtain ⟨c, t, f, hb, hget⟩ := block_cell hc
  have ho : o < c.size := by
    rcases Nat.lt_or_ge o c.size with h1 | h1
    · exact h1
    · rw [Array.getElem?_eq_none_iff.2 h1] at hget; cases hget
  unfold World.cell?
  rw [set_block hb v]
  simp [ho]
theorem set_cell_other {w : World} {p o b i : Nat} (hne : b ≠ p ∨ i ≠ o) (v : Value) : (w.setCell ⟨p, o, none⟩ v).cell? ⟨b, i, none⟩ = w.cell? ⟨b, i, none⟩ :=
  World.cell?_setCell_other _ _ _ _ (fun e => by have h1 := congrArg Addr.block e; have h2 := congrArg Addr.off e; simp at h1 h2; rcases hne with h | h <;> omega)
theorem set_frozen (w : World) (p o b i : Nat) (v : Value) : (w.setCell ⟨p, o, none⟩ v).frozen? ⟨b, i, none⟩ = w.frozen? ⟨b, i, none⟩ := by
  have := World.frozen?_setCells p [v] o w ⟨b, i, none⟩
  exact this

theorem FlW.size {p o : Nat} {h : Bool} {w w' : World} (k : FlW p o h w w') : w.heap.size ≤ w'.heap.size := by have := k.out.size; rwa [size_set] at this
theorem FlW.fl {p o : Nat} {h g : Bool} {w w' : World} (f : Fl p o g w) (k : FlW p o h w w') : Fl p o h w' :=
  ⟨by rw [k.out.cell (p := ⟨p, o, none⟩) f.lt]; exact set_cell_same f.cell _, by rw [k.out.frozen (p := ⟨p, o, none⟩) f.lt, set_frozen]; exact f.free, Nat.lt_of_lt_of_le f.lt k.size⟩
theorem FlW.cell {p o : Nat} {h : Bool} {w w' : World} (k : FlW p o h w w') {b i : Nat} (hb : b < w.heap.size) (hne : b ≠ p ∨ i ≠ o) : w'.cell? ⟨b, i, none⟩ = w.cell? ⟨b, i, none⟩ := by
  rw [k.out.cell (p := ⟨b, i, none⟩) hb]; exact set_cell_other hne _
theorem FlW.frozen {p o : Nat} {h : Bool} {w w' : World} (k : FlW p o h w w') {b i : Nat} (hb : b < w.heap.size) : w'.frozen? ⟨b, i, none⟩ = w.frozen? ⟨b, i, none⟩ := by
  rw [k.out.frozen (p := ⟨b, i, none⟩) hb]; exact set_frozen _ _ _ _ _ _
theorem FlW.block {p o : Nat} {h : Bool} {w w' : World} (k : FlW p o h w w') {b : Nat} (hb : b < w.heap.size) (hne : b ≠ p) : w'.heap[b]? = w.heap[b]? := by
  rw [k.out.block b hb, Below.heap_setCell _ _ _ _ hne]
theorem set_again (w : World) (p o : Nat) (u v : Value) (b : Nat) : ((w.setCell ⟨p, o, none⟩ u).setCell ⟨p, o, none⟩ v).heap[b]? = (w.setCell ⟨p, o, none⟩ v).heap[b]? := by
  by_cases h : b = p
  · subst h
    cases hb : w.heap[b]? with
    | none => simp [World.setCell, Array.getElem?_modify, hb]
    | some x => cases x <;> simp [World.setCell, Array.getElem?_modify, hb]
  · rw [Below.heap_setCell _ _ _ _ h, Below.heap_setCell _ _ _ _ h, Below.heap_setCell _ _ _ _ h]
theorem set_heap_congr {w w' : World} {p o : Nat} {v : Value} {b : Nat} (h : w'.heap[b]? = w.heap[b]?) : (w'.setCell ⟨p, o, none⟩ v).heap[b]? = (w.setCell ⟨p, o, none⟩ v).heap[b]? := by
  simp only [World.setCell, Array.getElem?_modify, h]
theorem FlW.set {p o : Nat} (h : Bool) (w : World) : FlW p o h w (w.setCell ⟨p, o, none⟩ (.bool h)) := ⟨Below.refl _ _⟩
theorem FlW.refl {p o : Nat} {h : Bool} {w : World} (f : Fl p o h w) : FlW p o h w w := by
  refine ⟨⟨rfl, rfl, rfl, by rw [size_set]; exact Nat.le_refl _, fun b hb => ?_⟩⟩
  by_cases hp : b = p
  · subst hp
    obtain ⟨c, t, fr, hbk, hget⟩ := block_cell f.cell
    rw [set_block hbk, hbk]
    congr 2
    refine Array.ext_getElem? fun i => ?_
    rw [Array.getElem?_setIfInBounds]
    split
    · rename_i e; subst e
      split
      · exact hget
      · rename_i hl; rw [Array.getElem?_eq_none_iff.2 (by omega)]
    · rfl
  · rw [Below.heap_setCell _ _ _ _ hp]
theorem FlW.then {p o : Nat} {h : Bool} {w w1 w2 : World} (k : FlW p o h w w1) (hb : Below w1.heap.size w1 w2) : FlW p o h w w2 := ⟨k.out.trans (hb.mono k.size)⟩
theorem FlW.thenAt {p o N : Nat} {h : Bool} {w w1 w2 : World} (k : FlW p o h w w1) (hN : w.heap.size ≤ N) (hb : Below N w1 w2) : FlW p o h w w2 := ⟨k.out.trans (hb.mono hN)⟩
theorem FlW.trans {p o : Nat} {h g : Bool} {w w1 w2 : World} (k : FlW p o h w w1) (l : FlW p o g w1 w2) : FlW p o g w w2 := by
  refine ⟨⟨l.out.os.trans k.out.os, l.out.tape.trans k.out.tape, l.out.output.trans k.out.output, ?_, fun b hb => ?_⟩⟩
  · rw [size_set]; exact Nat.le_trans k.size l.size
  · rw [l.out.block b (Nat.lt_of_lt_of_le hb k.size), ← set_again w p o (.bool h) (.bool g) b]
    exact set_heap_congr (k.out.block b hb)
theorem FlW.after {p o : Nat} {h g : Bool} {w w1 w2 : World} (f : Fl p o g w) (hb : Below w.heap.size w w1) (l : FlW p o h w1 w2) : FlW p o h w w2 :=
  ((FlW.refl f).then hb).trans l
/-- Where the flag lies in a block that is newer than N, all below N is as it was. -/
theorem FlW.below {p o N : Nat} {h : Bool} {w w' : World} (k : FlW p o h w w') (hN : N ≤ w.heap.size) (hp : N ≤ p) : Below N w w' :=
  ((Below.refl N w).setCell (p := ⟨p, o, none⟩) hp (.bool h)).trans (k.out.mono hN)
theorem FlW.alloc {p o : Nat} {h : Bool} {w w1 : World} (k : FlW p o h w w1) (x : Obj) : FlW p o h w (w1.alloc x) := k.then ((Below.refl _ _).alloc (Nat.le_refl _) _)
theorem FlW.drew {p o : Nat} {h : Bool} {w w1 : World} (k : FlW p o h w w1) : FlW p o h w w1.drew := ⟨k.out.drew⟩
theorem FlW.other {p o b i : Nat} {h : Bool} {w w1 : World} (k : FlW p o h w w1) (hb : w.heap.size ≤ b) (v : Value) : FlW p o h w (w1.setCell ⟨b, i, none⟩ v) := ⟨k.out.setCell (p := ⟨b, i, none⟩) hb v⟩
theorem Fl.below {p o : Nat} {h : Bool} {w w1 : World} (f : Fl p o h w) (hb : Below w.heap.size w w1) : Fl p o h w1 := FlW.fl f ((FlW.refl f).then hb)
theorem Fl.alloc {p o : Nat} {h : Bool} {w : World} (f : Fl p o h w) (x : Obj) : Fl p o h (w.alloc x) := f.below ((Below.refl _ _).alloc (Nat.le_refl _) _)
theorem Fl.drew {p o : Nat} {h : Bool} {w : World} (f : Fl p o h w) : Fl p o h w.drew := ⟨f.cell, f.free, f.lt⟩
theorem Fl.made (w : World) (t : TypeId) (h : Bool) : Fl w.heap.size 0 h (w.alloc (.cells #[.bool h] t)) := by
  have e : (w.alloc (.cells #[.bool h] t)).heap[w.heap.size]? = some (.cells #[.bool h] t (0, 0)) := heap_alloc_new w _
  exact ⟨by rw [cell_of_row _ _ _ _ _ _ e]; rfl, by unfold World.frozen?; rw [e]; rfl, by simp⟩
theorem Fl.made_at (w : World) (t : TypeId) (h : Bool) {B : Nat} (hB : w.heap.size = B) : Fl B 0 h (w.alloc (.cells #[.bool h] t)) := by subst hB; exact Fl.made w t h
/-- As 'Ext', where the block p may change. -/
abbrev FExt (p : Nat) (W w' : World) : Prop := (∀ b i, b ≠ p → b < W.heap.size → w'.cell? ⟨b, i, none⟩ = W.cell? ⟨b, i, none⟩) ∧ W.heap.size ≤ w'.heap.size
theorem FExt.start0 (p : Nat) (W : World) : FExt p W W := ⟨fun _ _ _ _ => rfl, Nat.le_refl _⟩
theorem FExt.start (p : Nat) (W : World) : FExt p W W.drew := ⟨fun _ _ _ _ => by simp, Nat.le_refl _⟩
theorem FExt.drew {p : Nat} {W w1 : World} (h : FExt p W w1) : FExt p W w1.drew := ⟨fun b i hne hlt => by simpa using h.1 b i hne hlt, h.2⟩
theorem FExt.call {p : Nat} {W w1 w2 : World} (h : FExt p W w1) (hb : Below w1.heap.size w1 w2) : FExt p W w2 :=
  ⟨fun b i hne hlt => (hb.cell (p := ⟨b, i, none⟩) (Nat.lt_of_lt_of_le hlt h.2)).trans (h.1 b i hne hlt), Nat.le_trans h.2 hb.size⟩
theorem FExt.flag {p o : Nat} {g : Bool} {W w1 w2 : World} (h : FExt p W w1) (k : FlW p o g w1 w2) : FExt p W w2 :=
  ⟨fun b i hne hlt => (k.cell (Nat.lt_of_lt_of_le hlt h.2) (.inl hne)).trans (h.1 b i hne hlt), Nat.le_trans h.2 k.size⟩
theorem FExt.alloc {p : Nat} {W w1 : World} (h : FExt p W w1) (x : Obj) : FExt p W (w1.alloc x) := h.call ((Below.refl _ _).alloc (Nat.le_refl _) _)
theorem FExt.other {p : Nat} {W w1 : World} (h : FExt p W w1) {b : Nat} (hb : W.heap.size ≤ b) (i : Nat) (v : Value) : FExt p W (w1.setCell ⟨b, i, none⟩ v) :=
  ⟨fun b' i' hne hlt => (set_cell_other (.inl (by omega)) v).trans (h.1 b' i' hne hlt), by rw [size_set]; exact h.2⟩
end Go.Proofs.Ytdndomknjefgkaa
namespace Go.Proofs.Ytdndomknjefgkaa
open Go.RowKit

theorem cellAt {N b i : Nat} {w w' : World} (h : Below N w w') (hb : b < N) : w'.cell? ⟨b, i, none⟩ = w.cell? ⟨b, i, none⟩ := h.cell (p := ⟨b, i, none⟩) hb
theorem i64_id (x : Int) (h1 : -9223372036854775808 ≤ x) (h2 : x ≤ 9223372036854775807) : IntKind.i64.wrap x = x := by
  rw [IntKind.wrap_i64]; omega
theorem alloc_old {w : World} {B : Nat} {o : Obj} (h : w.heap[B]? = some o) (x : Obj) : (w.alloc x).heap[B]? = some o := by
  have hl : B < w.heap.size := by
    rcases Nat.lt_or_ge B w.heap.size with h1 | h1
    · exact h1
    · rw [Array.getElem?_eq_none_iff.2 h1] at h; cases h
  rw [Below.heap_alloc _ _ _ hl]; exact h
theorem size_alloc (w : World) (o : Obj) : (w.alloc o).heap.size = w.heap.size + 1 := by simp
/-- All that X held is as it was. -/
abbrev BExt (X w' : World) : Prop := (∀ b o, b < X.heap.size → w'.cell? ⟨b, o, none⟩ = X.cell? ⟨b, o, none⟩) ∧ Below X.heap.size X w'
theorem BExt.of {X w' : World} (h : Below X.heap.size X w') : BExt X w' := ⟨fun b o hlt => h.cell (p := ⟨b, o, none⟩) hlt, h⟩
theorem BExt.start (X : World) : BExt X X.drew := .of (Below.refl _ _).drew
theorem BExt.start0 (X : World) : BExt X X := .of (Below.refl _ _)
theorem BExt.drew {X w1 : World} (h : BExt X w1) : BExt X w1.drew := .of h.2.drew
theorem BExt.call {X w1 w2 : World} (h : BExt X w1) (hb : Below w1.heap.size w1 w2) : BExt X w2 := .of (h.2.trans (hb.mono h.2.size))
theorem BExt.alloc {X w1 : World} (h : BExt X w1) (o : Obj) : BExt X (w1.alloc o) := .of (h.2.alloc h.2.size o)
theorem BExt.other {X w1 : World} (h : BExt X w1) {b i : Nat} (hb : X.heap.size ≤ b) (v : Value) : BExt X (w1.setCell ⟨b, i, none⟩ v) := .of (h.2.setCell (p := ⟨b, i, none⟩) hb v)
/-- The cells of the list hold what it says. -/
structure Mem (w : World) (L : List (Nat × Nat × Value)) : Prop where
  all : ∀ x ∈ L, x.1 < w.heap.size ∧ w.cell? ⟨x.1, x.2.1, none⟩ = some x.2.2
theorem Mem.nil (w : World) : Mem w [] := ⟨fun _ h => by cases h⟩
theorem Mem.cons {w : World} {L : List (Nat × Nat × Value)} {b i : Nat} {v : Value} (h : w.cell? ⟨b, i, none⟩ = some v) (m : Mem w L) : Mem w ((b, i, v) :: L) :=
  ⟨fun x hx => by
    rcases List.mem_cons.1 hx with rfl | hx
    · exact ⟨World.block_lt_of_cell? w ⟨b, i, none⟩ h, h⟩
    · exact m.all x hx⟩
theorem Mem.below {w w' : World} {L : List (Nat × Nat × Value)} (m : Mem w L) (hb : Below w.heap.size w w') : Mem w' L :=
  ⟨fun x hx => ⟨Nat.lt_of_lt_of_le (m.all x hx).1 hb.size, (cellAt hb (m.all x hx).1).trans (m.all x hx).2⟩⟩
theorem Mem.alloc {w : World} {L : List (Nat × Nat × Value)} (m : Mem w L) (o : Obj) : Mem (w.alloc o) L := m.below ((Below.refl _ _).alloc (Nat.le_refl _) o)
theorem Mem.drew {w : World} {L : List (Nat × Nat × Value)} (m : Mem w L) : Mem w.drew L := m.below (Below.refl _ _).drew
theorem Mem.set {w : World} {L : List (Nat × Nat × Value)} (m : Mem w L) {b i : Nat} (h : ∀ x ∈ L, x.1 ≠ b ∨ x.2.1 ≠ i) (v : Value) : Mem (w.setCell ⟨b, i, none⟩ v) L :=
  ⟨fun x hx => ⟨by rw [size_set]; exact (m.all x hx).1, (set_cell_other (h x hx) v).trans (m.all x hx).2⟩⟩
theorem Mem.flag {w w' : World} {L : List (Nat × Nat × Value)} {p o : Nat} {h : Bool} (m : Mem w L) (hp : ∀ x ∈ L, x.1 ≠ p) (k : FlW p o h w w') : Mem w' L :=
  ⟨fun x hx => ⟨Nat.lt_of_lt_of_le (m.all x hx).1 k.size, (k.cell (m.all x hx).1 (.inl (hp x hx))).trans (m.all x hx).2⟩⟩
theorem Mem.head {w : World} {L : List (Nat × Nat × Value)} {b i : Nat} {v : Value} (m : Mem w ((b, i, v) :: L)) : w.cell? ⟨b, i, none⟩ = some v := (m.all _ (List.mem_cons_self ..)).2
theorem Mem.lt {w : World} {L : List (Nat × Nat × Value)} {b i : Nat} {v : Value} (m : Mem w ((b, i, v) :: L)) : b < w.heap.size := (m.all _ (List.mem_cons_self ..)).1
theorem Mem.tail {w : World} {L : List (Nat × Nat × Value)} {x : Nat × Nat × Value} (m : Mem w (x :: L)) : Mem w L := ⟨fun y hy => m.all y (List.mem_cons_of_mem _ hy)⟩
theorem Mem.append {w : World} {L M : List (Nat × Nat × Value)} (m : Mem w L) (n : Mem w M) : Mem w (L ++ M) :=
  ⟨fun x hx => by
    rcases List.mem_append.1 hx with h | h
    · exact m.all x h
    · exact n.all x h⟩
/-- A new block's cells. -/
theorem Mem.made (w : World) (c : Array Value) (t : TypeId) {B : Nat} (hB : w.heap.size = B) : Mem (w.alloc (.cells c t)) (c.toList.zipIdx.map fun x => (B, x.2, x.1)) := by
  subst hB
  refine ⟨fun x hx => ?_⟩
  obtain ⟨y, hy, rfl⟩ := List.mem_map.1 hx
  have e : (w.alloc (.cells c t)).heap[w.heap.size]? = some (.cells c t (0, 0)) := heap_alloc_new w _
  refine ⟨by simp, ?_⟩
  rw [cell_of_row _ _ _ _ _ _ e]
  have := List.mem_zipIdx' hy
  obtain ⟨h1, h2⟩ := this
  simp at h1 h2
  rw [h2]
  simp [h1]
/-- A block that is known whole. -/
def Blk (w : World) (B : Nat) (c : Array Value) (t : TypeId) : Prop := w.heap[B]? = some (.cells c t (0, 0))
theorem Blk.lt {w : World} {B : Nat} {c : Array Value} {t : TypeId} (h : Blk w B c t) : B < w.heap.size := by
  rcases Nat.lt_or_ge B w.heap.size with h1 | h1
  · exact h1
  · have := (Array.getElem?_eq_none_iff.2 h1).symm.trans h
    cases this
theorem Blk.made (w : World) (c : Array Value) (t : TypeId) {B : Nat} (hB : w.heap.size = B) : Blk (w.alloc (.cells c t)) B c t := by subst hB; exact heap_alloc_new w _
theorem Blk.below {w w' : World} {B N : Nat} {c : Array Value} {t : TypeId} (h : Blk w B c t) (hb : Below N w w') (hB : B < N) : Blk w' B c t := (hb.block _ hB).trans h
theorem Blk.call {w w' : World} {B : Nat} {c : Array Value} {t : TypeId} (h : Blk w B c t) (hb : Below w.heap.size w w') : Blk w' B c t := h.below hb h.lt
theorem Blk.flag {w w' : World} {B p o : Nat} {f : Bool} {c : Array Value} {t : TypeId} (h : Blk w B c t) (hp : B ≠ p) (k : FlW p o f w w') : Blk w' B c t := (k.block h.lt hp).trans h
theorem Blk.alloc {w : World} {B : Nat} {c : Array Value} {t : TypeId} (h : Blk w B c t) (o : Obj) : Blk (w.alloc o) B c t := alloc_old h o
theorem Blk.drew {w : World} {B : Nat} {c : Array Value} {t : TypeId} (h : Blk w B c t) : Blk w.drew B c t := h
theorem Blk.other {w : World} {B b i : Nat} {c : Array Value} {t : TypeId} (h : Blk w B c t) (hb : B ≠ b) (v : Value) : Blk (w.setCell ⟨b, i, none⟩ v) B c t := (Below.heap_setCell _ _ _ _ hb).trans h
theorem Blk.set {w : World} {B i : Nat} {c : Array Value} {t : TypeId} (h : Blk w B c t) (v : Value) : Blk (w.setCell ⟨B, i, none⟩ v) B (c.setIfInBounds i v) t := set_block h v
theorem Blk.cell {w : World} {B : Nat} {c : Array Value} {t : TypeId} (h : Blk w B c t) (i : Nat) : w.cell? ⟨B, i, none⟩ = c[i]? := cell_of_row _ _ _ _ _ _ h
theorem Blk.free {w : World} {B : Nat} {c : Array Value} {t : TypeId} (h : Blk w B c t) (i : Nat) : w.frozen? ⟨B, i, none⟩ = false := by
  unfold World.frozen?
  rw [show w.heap[B]? = _ from h]
  simp
end Go.Proofs.Ytdndomknjefgkaa
namespace Go.Proofs.Ytdndomknjefgkaa
open Go.RowKit
/-- The slice's numbers, in memory. -/
structure Ints (w : World) (b o n : Nat) (xs : Nat → Int) : Prop where
  at_ : ∀ i, i < n → w.cell? ⟨b, o + i, none⟩ = some (.int .i64 (xs i))
end Go.Proofs.Ytdndomknjefgkaa
namespace Go.Proofs.Ytdndomknjefgkaa
open Go.RowKit

def rowA (n : Nat) (f : Nat → Int) : Array Value := Array.ofFn (n := n) fun i => Value.int .i64 (f i.1)
theorem rowA_size (n : Nat) (f : Nat → Int) : (rowA n f).size = n := by simp [rowA]
theorem rowA_get {n : Nat} (f : Nat → Int) {j : Nat} (h : j < n) : (rowA n f)[j]? = some (.int .i64 (f j)) := by simp [rowA, h]
theorem rowA_none {n : Nat} (f : Nat → Int) {j : Nat} (h : n ≤ j) : (rowA n f)[j]? = none := by simp [rowA, h]
theorem rowA_congr {n : Nat} {f g : Nat → Int} (h : ∀ j, j < n → f j = g j) : rowA n f = rowA n g := by
  unfold rowA
  congr 1
  funext i
  rw [h i.1 i.2]
theorem rowA_set {n : Nat} (f : Nat → Int) {k : Nat} (h : k < n) (v : Int) : (rowA n f).setIfInBounds k (.int .i64 v) = rowA n (upd f k v) := by
  refine Array.ext_getElem? fun i => ?_
  rw [Array.getElem?_setIfInBounds, rowA_size]
  by_cases hik : k = i
  · subst hik
    rw [if_pos rfl, if_pos h, rowA_get _ h]
    simp [upd]
  · rw [if_neg hik]
    by_cases hi : i < n
    · rw [rowA_get _ hi, rowA_get _ hi]
      simp [upd, show ¬ i = k by omega]
    · rw [rowA_none _ (by omega), rowA_none _ (by omega)]
theorem rowA_inj {n : Nat} {f g : Nat → Int} (h : rowA n f = rowA n g) {j : Nat} (hj : j < n) : f j = g j := by
  have h1 := congrArg (·[j]?) h
  simp only [rowA_get _ hj] at h1
  injection h1 with h1
  injection h1
theorem rowA_of {n : Nat} (l : List Value) (f : Nat → Int) (hl : l.length = n) (h : ∀ j, j < n → l[j]? = some (.int .i64 (f j))) : (⟨l⟩ : Array Value) = rowA n f := by
  refine Array.ext_getElem? fun i => ?_
  by_cases hi : i < n
  · rw [rowA_get _ hi]
    simpa using h i hi
  · rw [rowA_none _ (by omega)]
    simp
    omega
theorem Blk.ints {w : World} {B n : Nat} {f : Nat → Int} {t : TypeId} (h : Blk w B (rowA n f) t) : Ints w B 0 n f :=
  ⟨fun i hi => by rw [Nat.zero_add, h.cell, rowA_get _ hi]⟩
theorem Blk.setI {w : World} {B n : Nat} {f : Nat → Int} {t : TypeId} (h : Blk w B (rowA n f) t) {k : Nat} (hk : k < n) (v : Int) : Blk (w.setCell ⟨B, k, none⟩ (.int .i64 v)) B (rowA n (upd f k v)) t := by
  have := h.set (i := k) (.int .i64 v)
  rwa [rowA_set _ hk] at this
theorem Blk.congr {w : World} {B n : Nat} {f g : Nat → Int} {t : TypeId} (h : Blk w B (rowA n f) t) (e : ∀ j, j < n → f j = g j) : Blk w B (rowA n g) t := by
  rw [← rowA_congr e]; exact h
theorem Ints.part {w : World} {B o n : Nat} {f : Nat → Int} (h : Ints w B o n f) (c m : Nat) (hm : c + m ≤ n) : Ints w B (o + c) m (fun i => f (c + i)) :=
  ⟨fun i hi => by rw [Nat.add_assoc]; exact h.at_ (c + i) (by omega)⟩
theorem Ints.below {w w' : World} {B o n N : Nat} {f : Nat → Int} (h : Ints w B o n f) (hb : Below N w w') (hB : B < N) : Ints w' B o n f :=
  ⟨fun i hi => (cellAt hb hB).trans (h.at_ i hi)⟩
theorem Ints.flag {w w' : World} {B o n p q : Nat} {g : Bool} {f : Nat → Int} (h : Ints w B o n f) (hb : B < w.heap.size) (hp : B ≠ p) (k : FlW p q g w w') : Ints w' B o n f :=
  ⟨fun i hi => (k.cell hb (.inl hp)).trans (h.at_ i hi)⟩
theorem Ints.congr {w : World} {B o n : Nat} {f g : Nat → Int} (h : Ints w B o n f) (e : ∀ j, j < n → f j = g j) : Ints w B o n g :=
  ⟨fun i hi => by rw [← e i hi]; exact h.at_ i hi⟩
theorem Ints.drew {w : World} {B o n : Nat} {f : Nat → Int} (h : Ints w B o n f) : Ints w.drew B o n f := ⟨h.at_⟩
theorem upd_same (f : Nat → Int) (k : Nat) (v : Int) : upd f k v k = v := by simp [upd]
theorem upd_other (f : Nat → Int) {k j : Nat} (v : Int) (h : j ≠ k) : upd f k v j = f j := by simp [upd, h]
theorem rowA_one (n : Nat) (f : Nat → Int) : (rowA n f).all (·.oneCell') = true := by
  rw [Array.all_eq_true]
  intro i hi
  have h1 : i < n := by rwa [rowA_size] at hi
  have h2 := rowA_get f h1
  rw [Array.getElem?_eq_getElem hi] at h2
  injection h2 with h2
  rw [h2]; rfl
theorem Blk.setRow {w : World} {B : Nat} {c d : Array Value} {t : TypeId} (h : Blk w B c t) : Blk (w.setRow B d) B d t := setRow_heap w B c d t (0, 0) h
theorem Blk.otherRow {w : World} {B b : Nat} {c d : Array Value} {t : TypeId} (h : Blk w B c t) (hb : B ≠ b) : Blk (w.setRow b d) B c t := (setRow_other w b B d hb).trans h
theorem below_setRow {N b : Nat} {w w' : World} (h : Below N w w') (hb : N ≤ b) (d : Array Value) : Below N w (w'.setRow b d) :=
  h.trans ⟨rfl, rfl, rfl, by simp, fun i hi => setRow_other w' b i d (by omega)⟩
theorem FlW.row {p o b : Nat} {h : Bool} {w w1 : World} (k : FlW p o h w w1) (hb : w.heap.size ≤ b) (d : Array Value) : FlW p o h w (w1.setRow b d) := ⟨below_setRow k.out hb d⟩
/-- A whole row read; a whole row laid. -/
theorem row_load {P : Program} {ops : Array Oper} {rest : List Oper} {o : Oper} {a : Act} {w : World} {Q : Exit → Act → World → Prop} (ty : TypeId) (x : Operand) (hgd : o.guard = none) (ho : o.op = .load ty x)
    (g n : Nat) (f : Nat → Int) (t : TypeId) (hx : a.eval x = .pointer (some ⟨g, 0, none⟩)) (hg : Blk w g (rowA n f) t) (d : TypeDesc)
    (hu : P.underlying ty = some d) (hd : (match d with | .struct _ | .array _ _ => true | _ => false) = true) (hi : (P.info? ty).map (·.size) = some n)
    (h : wpList P ops Q rest (a.put o.dst (.agg (rowA n f))) w) : wpList P ops Q (o :: rest) a w :=
  wpList_load_row hgd ty x ho g hx t _ (0, 0) d hg hu hd (by rw [rowA_size]; exact hi) h
theorem row_wp {P : Program} {o : Oper} {a : Act} {w : World} {K : Act → World → Prop} {Q : Exit → Act → World → Prop} (ty : TypeId) (x : Operand) (ho : o.op = .load ty x)
    (g n : Nat) (f : Nat → Int) (t : TypeId) (hx : a.eval x = .pointer (some ⟨g, 0, none⟩)) (hg : Blk w g (rowA n f) t) (d : TypeDesc)
    (hu : P.underlying ty = some d) (hd : (match d with | .struct _ | .array _ _ => true | _ => false) = true) (hi : (P.info? ty).map (·.size) = some n)
    (h : K (a.put o.dst (.agg (rowA n f))) w) : o.wp P a w K Q :=
  wp_load_row ty x ho g hx t _ (0, 0) d hg hu hd (by rw [rowA_size]; exact hi) h
theorem row_store {P : Program} {ops : Array Oper} {rest : List Oper} {o : Oper} {a : Act} {w : World} {Q : Exit → Act → World → Prop} (ty : TypeId) (x y : Operand) (hgd : o.guard = none) (ho : o.op = .store ty x y)
    (g n : Nat) (f f' : Nat → Int) (t : TypeId) (hx : a.eval x = .pointer (some ⟨g, 0, none⟩)) (hy : a.eval y = .agg (rowA n f)) (hg : Blk w g (rowA n f') t) (hi : (P.info? ty).map (·.size) = some n)
    (h : wpList P ops Q rest (a.put o.dst undef) (w.setRow g (rowA n f))) : wpList P ops Q (o :: rest) a w :=
  wpList_store_row hgd ty x y ho g _ hx hy t _ hg (by rw [rowA_size]; exact hi) (by rw [rowA_size, rowA_size]) (rowA_one n f) h
theorem results_row {P : Program} {fn : Func} {p : Tmp} {ty : TypeId} (h : fn.results = #[.cell p ty]) (tmps : Array Value) (w : World) (g n : Nat) (f : Nat → Int) (t : TypeId) (d : TypeDesc)
    (hp : tmps.getD p undef = .pointer (some ⟨g, 0, none⟩)) (hg : Blk w g (rowA n f) t)
    (hu : P.underlying ty = some d) (hd : (match d with | .struct _ | .array _ _ => true | _ => false) = true) (hi : (P.info? ty).map (·.size) = some n) :
    (results fn tmps).run P w = .ok (.agg (rowA n f)) w :=
  results_cell_row h tmps w g t _ (0, 0) d hp hg hu hd (by rw [rowA_size]; exact hi)
/-- A part of a row, read. -/
theorem mid_load {P : Program} {ops : Array Oper} {rest : List Oper} {o : Oper} {a : Act} {w : World} {Q : Exit → Act → World → Prop} (ty : TypeId) (x : Operand) (hgd : o.guard = none) (ho : o.op = .load ty x)
    (g off n : Nat) (f : Nat → Int) (hx : a.eval x = .pointer (some ⟨g, off, none⟩)) (hg : Ints w g off n f) (d : TypeDesc)
    (hu : P.underlying ty = some d) (hd : d.isRow = true) (hi : (P.info? ty).map (·.size) = some n)
    (h : wpList P ops Q rest (a.put o.dst (.agg (rowA n f))) w) : wpList P ops Q (o :: rest) a w := by
  refine wpList_load_mid hgd ty x ho g off hx (rowA n f).toList d (fun j v hv => ?_) hu hd (by rw [Array.length_toList, rowA_size]; exact hi) (by simpa using h)
  by_cases hj : j < n
  · have := rowA_get f hj
    rw [Array.getElem?_toList, this] at hv
    injection hv with hv
    rw [← hv]; exact hg.at_ j hj
  · rw [Array.getElem?_toList, rowA_none f (by omega)] at hv; cases hv
/-- A number of a row. -/
theorem run_index_row {P : Program} {t e : TypeId} {n j : Nat} {k : IntKind} (hu : P.underlying t = some (.array n e)) (he : P.underlying e = some (.int .i64)) (hi : (P.info? e).map (·.size) = some 1) (f : Nat → Int) (hj : j < n) (w : World) :
    (Instr.index t (.agg (rowA n f)) (.int k (j : Int))).run P w = .ok (.int .i64 (f j)) w := by
  cases hq : P.info? e with
  | none => simp [hq] at hi
  | some i =>
    have hs : i.size = 1 := by simpa [hq] using hi
    have h1 : (0 : Int) ≤ (j : Int) ∧ (j : Int) < (n : Int) := ⟨by omega, by omega⟩
    have hagg : ∀ w, (isAgg e).run P w = .ok false w := fun w => by
      unfold isAgg
      rw [Sem.run_bind, run_underlying he w]
      rfl
    have hg := rowA_get f hj
    simp [Instr.index, asIntOf, run_underlying hu, h1, sizeOf, typeInfo, hq, hs, part, hagg, hg]
    intro h; omega
theorem index_row {P : Program} {ops : Array Oper} {rest : List Oper} {o : Oper} {a : Act} {w : World} {Q : Exit → Act → World → Prop} (t : TypeId) (x y : Operand) (hgd : o.guard = none) (ho : o.op = .index t x y)
    {e : TypeId} {n j : Nat} {k : IntKind} (f : Nat → Int) (hx : a.eval x = .agg (rowA n f)) (hy : a.eval y = .int k (j : Int)) (hu : P.underlying t = some (.array n e)) (he : P.underlying e = some (.int .i64)) (hi : (P.info? e).map (·.size) = some 1) (hj : j < n)
    (h : wpList P ops Q rest (a.put o.dst (.int .i64 (f j))) w) : wpList P ops Q (o :: rest) a w := by
  refine wpList_plain hgd fun K hK => ?_
  unfold Oper.wp execOp
  simp only [ho, hx, hy, Sem.run_bind, Sem.run_pure, Result.andThen_ok, run_index_row hu he hi f hj w]
  exact hK _ _ h
end Go.Proofs.Ytdndomknjefgkaa
namespace Go.Proofs.Ytdndomknjefgkaa.SX
open Go
section
variable (P : Program)
def isAggP (t : TypeId) : Option Bool := match P.underlying t with
  | some (.struct _) => some true
  | some (.array _ _) => some true
  | some _ => some false
  | none => none
def sizeP (t : TypeId) : Option Nat := match P.info? t with
  | some i => some i.size
  | none => none
def repL {α : Type} (l : List α) : Nat → List α
  | 0 => []
  | n + 1 => l ++ repL l n
/-- The kinds of a type's cells (a whole number, or a bool), where the type's values are compared cell by cell. -/
def flatFs (flat : TypeId → Option (List Bool)) : List Field → Nat → Option (List Bool)
  | [], _ => some []
  | f :: r, o => if f.name ≠ "_" ∧ f.offset = o then (match flat f.type, sizeP P f.type with
    | some ks, some s => if ks.length = s then (match flatFs flat r (o + s) with
      | some l => some (ks ++ l)
      | none => none) else none
    | _, _ => none) else none
def flat : Nat → TypeId → Option (List Bool)
  | 0, _ => none
  | d + 1, t => match P.underlying t with
    | some (.int _) => some [true]
    | some .bool => some [false]
    | some (.array n e) => (match flat d e, sizeP P e with
      | some ks, some s => if ks.length = s then some (repL ks n) else none
      | _, _ => none)
    | some (.struct fs) => if P.stoodInHeld t then none else flatFs P (flat d) fs.toList 0
    | _ => none
def flatOk (ty : TypeId) : Option (List Bool) := bif isAggP P ty == some true && !P.eqGuardType P.depth ty then flat P 8 ty else none
end
section
variable {P : Program}
theorem run_underlyingP {t : TypeId} {d : TypeDesc} (h : P.underlying t = some d) (w : World) : (underlying t).run P w = .ok d w := by
  simp [underlying, h]
theorem run_sizeOfP {t : TypeId} {s : Nat} (h : sizeP P t = some s) (w : World) : (sizeOf t).run P w = .ok s w := by
  unfold sizeP at h
  split at h
  · rename_i i hi; cases h; simp [sizeOf, typeInfo, hi]
  · cases h
theorem run_isAggP {t : TypeId} {b : Bool} (h : isAggP P t = some b) (w : World) : (isAgg t).run P w = .ok b w := by
  unfold isAggP at h
  unfold isAgg
  cases hu : P.underlying t with
  | none => simp [hu] at h
  | some d =>
    rw [Sem.run_bind, run_underlyingP hu]
    simp only [Result.andThen_ok]
    rw [hu] at h
    cases d <;> simp_all
def ceq : Value → Value → Bool
  | .int _ a, .int _ b => a == b
  | .bool a, .bool b => a == b
  | _, _ => false
def aeq : List Value → List Value → Bool
  | [], [] => true
  | x :: xs, y :: ys => ceq x y && aeq xs ys
  | _, _ => false
def kin : Bool → Value → Value → Prop
  | true, .int k _, .int k' _ => k = k'
  | false, .bool _, .bool _ => True
  | _, _, _ => False
def akin : List Bool → List Value → List Value → Prop
  | [], [], [] => True
  | k :: ks, x :: xs, y :: ys => kin k x y ∧ akin ks xs ys
  | _, _, _ => False
theorem akin.split : ∀ {a b : List Bool} {xs ys : List Value}, akin (a ++ b) xs ys → akin a (xs.take a.length) (ys.take a.length) ∧ akin b (xs.drop a.length) (ys.drop a.length)
  | [], b, xs, ys, h => by simpa [akin] using h
  | k :: a, b, x :: xs, y :: ys, ⟨h1, h2⟩ => by
    obtain ⟨h3, h4⟩ := akin.split h2
    exact ⟨⟨h1, h3⟩, h4⟩
  | _ :: _, _, [], _, h => by cases h
  | _ :: _, _, _ :: _, [], h => by cases h
theorem akin.len : ∀ {ks : List Bool} {xs ys : List Value}, akin ks xs ys → xs.length = ks.length ∧ ys.length = ks.length
  | [], [], [], _ => ⟨rfl, rfl⟩
  | _ :: _, _ :: _, _ :: _, ⟨_, h⟩ => by obtain ⟨h1, h2⟩ := akin.len h; simp [h1, h2]
  | [], _ :: _, _, h => by cases h
  | [], [], _ :: _, h => by cases h
  | _ :: _, [], _, h => by cases h
  | _ :: _, _ :: _, [], h => by cases h
theorem aeq_append : ∀ (a b c d : List Value), a.length = b.length → aeq (a ++ c) (b ++ d) = (aeq a b && aeq c d)
  | [], [], c, d, _ => by simp [aeq]
  | x :: a, y :: b, c, d, h => by simp at h; simp [aeq, aeq_append a b c d h, Bool.and_assoc]
  | [], _ :: _, _, _, h => by simp at h
  | _ :: _, [], _, _, h => by simp at h
theorem aeq_split (xs ys : List Value) (n : Nat) (h : xs.length = ys.length) : aeq xs ys = (aeq (xs.take n) (ys.take n) && aeq (xs.drop n) (ys.drop n)) := by
  rw [← aeq_append _ _ _ _ (by simp [h]), List.take_append_drop, List.take_append_drop]
theorem run_loop {β : Type} {w : World} {F : β → Option Bool × Unit → Sem (ForInStep (Option Bool × Unit))} (f : β → Bool) : ∀ (l : List β),
    (∀ x ∈ l, ∀ s, (F x s).run P w = .ok (bif f x then .yield (none, ()) else .done (some false, ())) w) →
    (forIn l (none, ()) F).run P w = .ok (bif l.all f then (none, ()) else (some false, ())) w
  | [], _ => by simp
  | x :: l, h => by
    rw [List.forIn_cons, Sem.run_bind, h x (List.mem_cons_self ..)]
    simp only [Result.andThen_ok, List.all_cons]
    cases hx : f x
    · simp
    · simp only [cond_true, Bool.true_and]
      exact run_loop f l (fun y hy s => h y (List.mem_cons_of_mem _ hy) s)
def MainEq (P : Program) (D : Nat) (t : TypeId) (ks : List Bool) : Prop := ∀ (xs ys : List Value), akin ks xs ys → ∀ w,
  (isAggP P t = some true → (Op.equalIn D t (.agg ⟨xs⟩) (.agg ⟨ys⟩)).run P w = .ok (aeq xs ys) w) ∧
  (isAggP P t = some false → ∃ x y, xs = [x] ∧ ys = [y] ∧ (Op.equalIn D t x y).run P w = .ok (aeq xs ys) w) ∧ isAggP P t ≠ none
theorem part_run {t : TypeId} {n : Nat} (hs : sizeP P t = some n) (XS : List Value) (off : Nat) (w : World) :
    (isAggP P t = some true → (part t ⟨XS⟩ off).run P w = .ok (.agg ⟨(XS.drop off).take n⟩) w) ∧
    (isAggP P t = some false → ∀ x, (XS.drop off).take n = [x] → (part t ⟨XS⟩ off).run P w = .ok x w) := by
  refine ⟨fun ha => ?_, fun ha x hx => ?_⟩
  · unfold part
    rw [Sem.run_bind, run_isAggP ha]
    simp only [Result.andThen_ok, if_true, Sem.run_bind, run_sizeOfP hs, Sem.run_pure]
    congr 2
    apply Array.ext'
    simp [List.extract_eq_take_drop]
  · unfold part
    rw [Sem.run_bind, run_isAggP ha]
    have : XS[off]? = some x := by
      have h1 : ((XS.drop off).take n)[0]? = some x := by rw [hx]; rfl
      rw [List.getElem?_take] at h1
      split at h1
      · simpa using h1
      · cases h1
    simp [this]
theorem part_eq {D : Nat} {t : TypeId} {ks : List Bool} (hm : MainEq P D t ks) (hs : sizeP P t = some ks.length) (XS YS : List Value) (off : Nat) (hk : akin ks ((XS.drop off).take ks.length) ((YS.drop off).take ks.length)) (w : World) :
    ∃ a b, (part t ⟨XS⟩ off).run P w = .ok a w ∧ (part t ⟨YS⟩ off).run P w = .ok b w ∧ (Op.equalIn D t a b).run P w = .ok (aeq ((XS.drop off).take ks.length) ((YS.drop off).take ks.length)) w := by
  obtain ⟨h1, h2, h3⟩ := hm _ _ hk w
  obtain ⟨p1, p2⟩ := part_run hs XS off w
  obtain ⟨q1, q2⟩ := part_run hs YS off w
  cases ha : isAggP P t with
  | none => exact absurd ha h3
  | some b =>
    cases b
    · obtain ⟨x, y, hx, hy, he⟩ := h2 ha
      exact ⟨x, y, p2 ha x hx, q2 ha y hy, he⟩
    · exact ⟨_, _, p1 ha, q1 ha, h1 ha⟩
theorem struct_all {D : Nat} {fl : TypeId → Option (List Bool)} (hfl : ∀ t n, fl t = some n → MainEq P D t n) (XS YS : List Value) (hl : XS.length = YS.length) (w : World)
    {F : Field → Option Bool × Unit → Sem (ForInStep (Option Bool × Unit))}
    (hF : ∀ f s, f.name ≠ "_" → ∀ a b q, (part f.type ⟨XS⟩ f.offset).run P w = .ok a w → (part f.type ⟨YS⟩ f.offset).run P w = .ok b w → (Op.equalIn D f.type a b).run P w = .ok q w →
      (F f s).run P w = .ok (bif q then .yield (none, ()) else .done (some false, ())) w) :
    ∀ (l : List Field) (o : Nat) (ks : List Bool), flatFs P fl l o = some ks → akin ks (XS.drop o) (YS.drop o) → (forIn l (none, ()) F).run P w = .ok (bif aeq (XS.drop o) (YS.drop o) then (none, ()) else (some false, ())) w
  | [], o, ks, h, hk => by
    simp [flatFs] at h
    subst h
    obtain ⟨h1, h2⟩ := hk.len
    rw [List.eq_nil_of_length_eq_zero h1, List.eq_nil_of_length_eq_zero h2]
    simp [aeq]
  | f :: l, o, ks, h, hk => by
    unfold flatFs at h
    split at h
    · rename_i hc
      obtain ⟨hn, ho⟩ := hc
      split at h
      · rename_i k1 s h1 h2
        split at h
        · rename_i hss
          subst hss
          split at h
          · rename_i k2 h3
            cases h
            obtain ⟨a1, a2⟩ := hk.split
            rw [← ho] at a1
            obtain ⟨a, b, ha, hb, hq⟩ := part_eq (hfl _ _ h1) h2 XS YS f.offset a1 w
            rw [List.forIn_cons, Sem.run_bind, hF f _ hn a b _ ha hb hq]
            simp only [Result.andThen_ok]
            rw [List.drop_drop, List.drop_drop] at a2
            rw [aeq_split (XS.drop o) (YS.drop o) k1.length (by simp [hl]), List.drop_drop, List.drop_drop, ho]
            cases aeq ((XS.drop o).take k1.length) ((YS.drop o).take k1.length)
            · simp
            · simp only [cond_true, Bool.true_and]
              exact struct_all hfl XS YS hl w hF l (o + k1.length) k2 h3 a2
          · cases h
        · cases h
      · cases h
    · cases h
theorem array_all {D : Nat} {e : TypeId} {k1 : List Bool} (hm : MainEq P D e k1) (hs : sizeP P e = some k1.length) (XS YS : List Value) (hl : XS.length = YS.length) (w : World)
    {F : Nat → Option Bool × Unit → Sem (ForInStep (Option Bool × Unit))}
    (hF : ∀ i st a b q, (part e ⟨XS⟩ (i * k1.length)).run P w = .ok a w → (part e ⟨YS⟩ (i * k1.length)).run P w = .ok b w → (Op.equalIn D e a b).run P w = .ok q w →
      (F i st).run P w = .ok (bif q then .yield (none, ()) else .done (some false, ())) w) :
    ∀ (k i : Nat), akin (repL k1 k) (XS.drop (i * k1.length)) (YS.drop (i * k1.length)) → (forIn (List.range' i k) (none, ()) F).run P w = .ok (bif aeq (XS.drop (i * k1.length)) (YS.drop (i * k1.length)) then (none, ()) else (some false, ())) w
  | 0, i, hk => by
    obtain ⟨h1, h2⟩ := hk.len
    rw [List.eq_nil_of_length_eq_zero h1, List.eq_nil_of_length_eq_zero h2]
    simp [aeq]
  | k + 1, i, hk => by
    obtain ⟨a1, a2⟩ := akin.split (a := k1) (b := repL k1 k) hk
    obtain ⟨a, b, ha, hb, hq⟩ := part_eq hm hs XS YS (i * k1.length) a1 w
    rw [List.range'_succ, List.forIn_cons, Sem.run_bind, hF i _ a b _ ha hb hq]
    simp only [Result.andThen_ok]
    have e1 : i * k1.length + k1.length = (i + 1) * k1.length := by rw [Nat.add_mul]; omega
    rw [List.drop_drop, List.drop_drop, e1] at a2
    rw [aeq_split (XS.drop (i * k1.length)) (YS.drop (i * k1.length)) k1.length (by simp [hl]), List.drop_drop, List.drop_drop]
    rw [e1]
    cases aeq ((XS.drop (i * k1.length)).take k1.length) ((YS.drop (i * k1.length)).take k1.length)
    · simp
    · simp only [cond_true, Bool.true_and]
      exact array_all hm hs XS YS hl w hF k (i + 1) a2
theorem step_run {α : Type} {a b : Value} {q : Bool} {w : World} {t : TypeId} {x y : Sem Value} {D : Nat} {A B : Sem α} {r : α} (ha : x.run P w = .ok a w) (hb : y.run P w = .ok b w) (hq : (Op.equalIn D t a b).run P w = .ok q w)
    (hA : A.run P w = .ok r w ∨ q = true) (hB : B.run P w = .ok r w ∨ q = false) :
    (do let u ← x; let v ← y; let z ← Op.equalIn D t u v; if (!z) = true then A else B : Sem α).run P w = .ok r w := by
  rw [Sem.run_bind, ha]
  simp only [Result.andThen_ok]
  rw [Sem.run_bind, hb]
  simp only [Result.andThen_ok]
  rw [Sem.run_bind, hq]
  simp only [Result.andThen_ok]
  cases q
  · simpa using hA
  · simpa using hB
theorem flat_main : ∀ (d : Nat) (t : TypeId) (ks : List Bool), flat P d t = some ks → ∀ D, d ≤ D → MainEq P D t ks
  | 0, t, n, h, _, _ => by simp [flat] at h
  | d + 1, t, n, h, 0, hD => by omega
  | d + 1, t, n, h, D + 1, hD => by
    intro xs ys hk w
    obtain ⟨l1, l2⟩ := hk.len
    unfold flat at h
    split at h
    · rename_i k hu
      cases h
      refine ⟨fun ha => ?_, fun ha => ?_, ?_⟩
      · simp [isAggP, hu] at ha
      · match xs, ys, hk with
        | [x], [y], ⟨hk, _⟩ =>
          refine ⟨x, y, rfl, rfl, ?_⟩
          cases x <;> cases y <;> simp only [kin] at hk
          rename_i k1 a k2 b
          subst hk
          unfold Op.equalIn
          rw [Sem.run_bind, run_underlyingP hu]
          simp [aeq, ceq]
      · simp [isAggP, hu]
    · rename_i hu
      cases h
      refine ⟨fun ha => ?_, fun ha => ?_, ?_⟩
      · simp [isAggP, hu] at ha
      · match xs, ys, hk with
        | [x], [y], ⟨hk, _⟩ =>
          refine ⟨x, y, rfl, rfl, ?_⟩
          cases x <;> cases y <;> simp only [kin] at hk
          rename_i a b
          unfold Op.equalIn
          rw [Sem.run_bind, run_underlyingP hu]
          simp [aeq, ceq]
      · simp [isAggP, hu]
    · rename_i len e hu
      split at h
      · rename_i k1 s h1 h2
        split at h
        · rename_i hss
          subst hss
          cases h
          have hm := flat_main d e k1 h1 D (by omega)
          refine ⟨fun ha => ?_, fun ha => ?_, ?_⟩
          · unfold Op.equalIn
            rw [Sem.run_bind, run_underlyingP hu]
            simp only [Result.andThen_ok]
            rw [Sem.run_bind, run_sizeOfP h2]
            simp only [Result.andThen_ok]
            rw [Sem.run_bind, Std.Legacy.Range.forIn_eq_forIn_range']
            simp only [Std.Legacy.Range.size, Nat.sub_zero, Nat.add_sub_cancel, Nat.div_one]
            rw [array_all hm h2 xs ys (l1.trans l2.symm) w (fun i st a b q ha hb hq => by
              refine step_run ha hb hq ?_ ?_ <;> cases q <;> simp) len 0 (by simpa using hk)]
            simp only [Result.andThen_ok, Nat.zero_mul, List.drop_zero]
            cases aeq xs ys <;> rfl
          · simp [isAggP, hu] at ha
          · simp [isAggP, hu]
        · cases h
      · cases h
    · rename_i fs hu
      split at h
      · cases h
      · rename_i hst
        refine ⟨fun ha => ?_, fun ha => ?_, ?_⟩
        · unfold Op.equalIn
          rw [Sem.run_bind, run_underlyingP hu]
          simp only [Result.andThen_ok]
          rw [Sem.run_bind]
          simp only [run_program, Result.andThen_ok]
          rw [if_neg hst, Sem.run_bind, ← Array.forIn_toList]
          rw [struct_all (fun t n hf => flat_main d t n hf D (by omega)) xs ys (l1.trans l2.symm) w (fun f s hn a b q ha hb hq => by
              rw [if_pos hn]
              refine step_run ha hb hq ?_ ?_ <;> cases q <;> simp) fs.toList 0 n h (by simpa using hk)]
          simp only [Result.andThen_ok, List.drop_zero]
          cases aeq xs ys <;> rfl
        · simp [isAggP, hu] at ha
        · simp [isAggP, hu]
    · cases h
/-- Comparing cells by what they stand for. -/
theorem equal_agg {ty : TypeId} {ks : List Bool} (hf : flatOk P ty = some ks) {xs ys : List Value} (hk : akin ks xs ys) (w : World) (x y : Operand) (op : BinOp) :
    (Op.equal ty (.agg ⟨xs⟩) (.agg ⟨ys⟩)).run P w = .ok (aeq xs ys) w ∧ (eqGuard op ty x y (.agg ⟨xs⟩) (.agg ⟨ys⟩)).run P w = .ok () w := by
  unfold flatOk at hf
  cases hc : (isAggP P ty == some true && !P.eqGuardType P.depth ty)
  · rw [hc] at hf; cases hf
  · rw [hc] at hf
    simp only [cond_true] at hf
    rw [Bool.and_eq_true] at hc
    obtain ⟨c1, c2⟩ := hc
    have c1 := eq_of_beq c1
    have c2 : P.eqGuardType P.depth ty = false := by simpa using c2
    refine ⟨?_, ?_⟩
    · obtain ⟨h1, _, _⟩ := flat_main 8 ty ks hf Op.maxDepth (by decide) xs ys hk w
      exact h1 c1
    · unfold eqGuard
      cases op <;> simp [c2]
end
end Go.Proofs.Ytdndomknjefgkaa.SX
namespace Go.Proofs.Ytdndomknjefgkaa
open Go.RowKit

def eqB (n : Nat) (f g : Nat → Int) : Bool := (List.range n).all fun k => f k == g k
theorem eqB_iff {n : Nat} {f g : Nat → Int} : eqB n f g = true ↔ ∀ k, k < n → f k = g k := by
  unfold eqB
  rw [List.all_eq_true]
  constructor
  · intro h k hk; simpa using h k (List.mem_range.2 hk)
  · intro h k hk; simpa using h k (List.mem_range.1 hk)
theorem eqB_same (n : Nat) (f : Nat → Int) : eqB n f f = true := eqB_iff.2 fun _ _ => rfl
theorem eqB_of {n : Nat} {f g : Nat → Int} (h : ∀ k, k < n → f k = g k) : eqB n f g = true := eqB_iff.2 h
theorem akin_ints : ∀ (l m : List Int), l.length = m.length → SX.akin (List.replicate l.length true) (l.map (Value.int .i64)) (m.map (Value.int .i64)) ∧ SX.aeq (l.map (Value.int .i64)) (m.map (Value.int .i64)) = (l == m)
  | [], [], _ => ⟨trivial, rfl⟩
  | a :: l, b :: m, h => by
    obtain ⟨h1, h2⟩ := akin_ints l m (by simpa using h)
    refine ⟨⟨rfl, h1⟩, ?_⟩
    simp only [List.map_cons, SX.aeq, SX.ceq, h2]
    rfl
  | [], _ :: _, h => by simp at h
  | _ :: _, [], h => by simp at h
theorem rowA_list (n : Nat) (f : Nat → Int) : rowA n f = ⟨((List.range n).map f).map (Value.int .i64)⟩ := by
  refine Array.ext_getElem? fun i => ?_
  by_cases hi : i < n
  · rw [rowA_get _ hi]; simp [hi]
  · rw [rowA_none _ (by omega)]; symm; simp; omega
theorem eqB_list (n : Nat) (f g : Nat → Int) : ((List.range n).map f == (List.range n).map g) = eqB n f g := by
  rw [Bool.eq_iff_iff, eqB_iff]
  simp
section
variable {P : Program} {n : Nat} {ty : TypeId} (hf : SX.flatOk P ty = some (List.replicate n true)) (f g : Nat → Int) (w : World)
include hf
theorem equal_row : (Op.equal ty (.agg (rowA n f)) (.agg (rowA n g))).run P w = .ok (eqB n f g) w := by
  obtain ⟨h1, h2⟩ := akin_ints ((List.range n).map f) ((List.range n).map g) (by simp)
  rw [List.length_map, List.length_range] at h1
  obtain ⟨h3, _⟩ := SX.equal_agg hf h1 w (.tmp 0) (.tmp 0) .eql
  rw [rowA_list, rowA_list, h3, h2, eqB_list]
theorem guard_row (op : BinOp) (x y : Operand) : (eqGuard op ty x y (.agg (rowA n f)) (.agg (rowA n g))).run P w = .ok () w := by
  obtain ⟨h1, h2⟩ := akin_ints ((List.range n).map f) ((List.range n).map g) (by simp)
  rw [List.length_map, List.length_range] at h1
  rw [rowA_list, rowA_list]
  exact (SX.equal_agg hf h1 w x y op).2
theorem eql_row : (binOp .eql ty (.agg (rowA n f)) (.agg (rowA n g))).run P w = .ok (.bool (eqB n f g)) w := by
  simp only [binOp, Sem.run_bind, equal_row hf, Sem.run_pure, Result.andThen_ok]
theorem neq_row : (binOp .neq ty (.agg (rowA n f)) (.agg (rowA n g))).run P w = .ok (.bool (!eqB n f g)) w := by
  simp only [binOp, Sem.run_bind, equal_row hf, Sem.run_pure, Result.andThen_ok]
end
end Go.Proofs.Ytdndomknjefgkaa
