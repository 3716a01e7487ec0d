/- What holds of every world in the middle of a statement that only reads, calls functions that make memory of their own, and stores its result. -/
import Derived.Test.YtahedampmjfoeaaWnum
import Derived.Deep.MidRow
import Derived.Deep.QuietTactic
import Derived.BigQuiet
import Derived.StillTailTactics
import Derived.Deep.LoopGhost
import Derived.Deep.RegionHeld3
import Derived.Deep.RegionWith
import Derived.Deep.Cut
namespace Go.Proofs.Ytahedampmjfoeaa
open Go.RowKit
abbrev BgR (s : Bool) (n : Nat) : Value := .agg #[.bool s, .int .u64 (dg n 0), .int .u64 (dg n 1), .int .u64 (dg n 2), .int .u64 (dg n 3), .int .u64 (dg n 4), .int .u64 (dg n 5), .int .u64 (dg n 6), .int .u64 (dg n 7)]
theorem ret_bool {a b : Bool} (h : a = b) : Ending.returned (.bool a) = .returned (.bool b) := by rw [h]

theorem bcell {W w1 : World} (hb : Below W.heap.size W w1) : (∀ b o, b < W.heap.size → w1.cell? ⟨b, o, none⟩ = W.cell? ⟨b, o, none⟩) ∧ (∀ b o, b < W.heap.size → w1.frozen? ⟨b, o, none⟩ = W.frozen? ⟨b, o, none⟩) :=
  ⟨fun b o h => hb.cell (p := ⟨b, o, none⟩) h, fun b o h => hb.frozen (p := ⟨b, o, none⟩) h⟩
theorem Below.undrew {W w1 : World} (hb : Below W.drew.heap.size W.drew w1) : Below W.heap.size W w1 := ⟨hb.os, hb.tape, hb.output, hb.size, hb.block⟩
theorem Below.setCells {B : Nat} {a : World} {b : Nat} (hB : B ≤ b) : ∀ (vs : List Value) (o : Nat) (w : World), Below B a w → Below B a (w.setCells b o vs)
  | [], _, _, h => h
  | v :: r, o, w, h => by rw [World.setCells]; exact Below.setCells hB r (o + 1) _ (h.setCell hB v)
theorem Below.set2 {B : Nat} {a w : World} {b : Nat} (hB : B ≤ b) (h : Below B a w) (v0 v1 : Value) : Below B a ((w.setCell ⟨b, 0, none⟩ v0).setCell ⟨b, 1, none⟩ v1) := ((h.setCell hB _).setCell hB _)
theorem Below.set8 {B : Nat} {a w : World} {b : Nat} (hB : B ≤ b) (h : Below B a w) (v0 v1 v2 v3 v4 v5 v6 v7 : Value) : Below B a ((((((((w.setCell ⟨b, 0, none⟩ v0).setCell ⟨b, 1, none⟩ v1).setCell ⟨b, 2, none⟩ v2).setCell ⟨b, 3, none⟩ v3).setCell ⟨b, 4, none⟩ v4).setCell ⟨b, 5, none⟩ v5).setCell ⟨b, 6, none⟩ v6).setCell ⟨b, 7, none⟩ v7) := ((((((((h.setCell hB _).setCell hB _).setCell hB _).setCell hB _).setCell hB _).setCell hB _).setCell hB _).setCell hB _)
theorem Below.set9 {B : Nat} {a w : World} {b : Nat} (hB : B ≤ b) (h : Below B a w) (v0 v1 v2 v3 v4 v5 v6 v7 v8 : Value) : Below B a (((((((((w.setCell ⟨b, 0, none⟩ v0).setCell ⟨b, 1, none⟩ v1).setCell ⟨b, 2, none⟩ v2).setCell ⟨b, 3, none⟩ v3).setCell ⟨b, 4, none⟩ v4).setCell ⟨b, 5, none⟩ v5).setCell ⟨b, 6, none⟩ v6).setCell ⟨b, 7, none⟩ v7).setCell ⟨b, 8, none⟩ v8) := (((((((((h.setCell hB _).setCell hB _).setCell hB _).setCell hB _).setCell hB _).setCell hB _).setCell hB _).setCell hB _).setCell hB _)
theorem heap_setCells (b : Nat) : ∀ (vs : List Value) (o : Nat) (w : World), (w.setCells b o vs).heap.size = w.heap.size
  | [], _, _ => rfl
  | v :: r, o, w => by rw [World.setCells, heap_setCells b r (o + 1)]; simp [World.setCell]

/-- What the cell holds. -/
def atv (w : World) (b o : Nat) : Value := (w.cell? ⟨b, o, none⟩).getD undef
theorem cell_atv {w : World} {b o : Nat} (h : (w.cell? ⟨b, o, none⟩).isSome = true) : w.cell? ⟨b, o, none⟩ = some (atv w b o) := by
  unfold atv
  obtain ⟨v, hv⟩ := Option.isSome_iff_exists.1 h
  rw [hv]; rfl
/-- w: as the call began; W: as the statement began; R: the result's block, of n cells. -/
abbrev Inv (w W : World) (R n : Nat) (w' : World) : Prop :=
  (∀ b o, b ≠ R → b < W.heap.size → w'.cell? ⟨b, o, none⟩ = W.cell? ⟨b, o, none⟩) ∧ (∀ o, o < n → w'.cell? ⟨R, o, none⟩ = some (atv w' R o)) ∧ (∀ o, o < n → w'.frozen? ⟨R, o, none⟩ = false) ∧ Below w.heap.size w w' ∧ W.heap.size ≤ w'.heap.size
theorem Inv.start {w W : World} {R n : Nat} (h1 : W.there R 0 n) (h2 : Below w.heap.size w W) : Inv w W R n W.drew :=
  ⟨fun _ _ _ _ => by simp, fun o ho => cell_atv (by have := (h1 o ho).1; simpa using this), fun o ho => by have := (h1 o ho).2; simpa using this, h2.drew, Nat.le_refl _⟩
theorem Inv.start0 {w W : World} {R n : Nat} (h1 : W.there R 0 n) (h2 : Below w.heap.size w W) : Inv w W R n W :=
  ⟨fun _ _ _ _ => rfl, fun o ho => cell_atv (by have := (h1 o ho).1; simpa using this), fun o ho => by have := (h1 o ho).2; simpa using this, h2, Nat.le_refl _⟩
theorem Inv.drew {w W w1 : World} {R n : Nat} (h : Inv w W R n w1) : Inv w W R n w1.drew := by
  obtain ⟨h1, h2, h3, h4, h5⟩ := h
  exact ⟨fun b o hne hlt => by simpa using h1 b o hne hlt, fun j hj => cell_atv (by have := h2 j hj; simp at this ⊢; rw [this]; rfl), fun j hj => by simpa using h3 j hj, h4.drew, h5⟩
theorem Inv.call {w W w1 w2 : World} {R n : Nat} (hR : R < W.heap.size) (hw : w.heap.size ≤ W.heap.size) (h : Inv w W R n w1) (hb : Below w1.heap.size w1 w2) : Inv w W R n w2 := by
  obtain ⟨h1, h2, h3, h4, h5⟩ := h
  refine ⟨fun b o hne hlt => ?_, fun j hj => ?_, fun j hj => ?_, h4.trans (hb.mono (by omega)), Nat.le_trans h5 hb.size⟩
  · rw [hb.cell (p := ⟨b, o, none⟩) (by show b < _; omega)]; exact h1 b o hne hlt
  · refine cell_atv ?_
    rw [hb.cell (p := ⟨R, j, none⟩) (by show R < _; omega), h2 j hj]; rfl
  · rw [hb.frozen (p := ⟨R, j, none⟩) (by show R < _; omega), h3 j hj]
theorem Inv.set {w W w1 : World} {R n : Nat} (hw : w.heap.size ≤ R) (o : Nat) (v : Value) (h : Inv w W R n w1) : Inv w W R n (w1.setCell ⟨R, o, none⟩ v) := by
  obtain ⟨h1, h2, h3, h4, h5⟩ := h
  refine ⟨fun b o' hne hlt => ?_, fun j hj => ?_, fun j hj => ?_, h4.setCell hw v, by simpa [World.setCell] using h5⟩
  · rw [World.cell?_setCell_other _ _ _ _ (fun e => hne (by have := congrArg Addr.block e; exact this.symm))]
    exact h1 b o' hne hlt
  · refine cell_atv ?_
    have := World.isSome_setCells R [v] o w1 ⟨R, j, none⟩ (by rw [h2 j hj]; rfl)
    exact this
  · have := World.frozen?_setCells R [v] o w1 ⟨R, j, none⟩
    exact this.trans (h3 j hj)
theorem Inv.alloc {w W w1 : World} {R n : Nat} (hR : R < W.heap.size) (hw : w.heap.size ≤ W.heap.size) (h : Inv w W R n w1) (o : Obj) : Inv w W R n (w1.alloc o) :=
  Inv.call hR hw h ((Below.refl _ _).alloc (Nat.le_refl _) o)
theorem Inv.other {w W w1 : World} {R n : Nat} (hR : R < W.heap.size) (hw : w.heap.size ≤ W.heap.size) (h : Inv w W R n w1) {b : Nat} (hb : W.heap.size ≤ b) (o : Nat) (v : Value) : Inv w W R n (w1.setCell ⟨b, o, none⟩ v) := by
  obtain ⟨h1, h2, h3, h4, h5⟩ := h
  have hne : ∀ b' o', b' < W.heap.size → (⟨b, o, none⟩ : Addr) ≠ ⟨b', o', none⟩ := fun b' o' hlt e => by have := congrArg Addr.block e; simp at this; omega
  refine ⟨fun b' o' hne' hlt => ?_, fun j hj => ?_, fun j hj => ?_, h4.setCell (by show _ ≤ b; omega) v, by simpa [World.setCell] using h5⟩
  · rw [World.cell?_setCell_other _ _ _ _ (hne b' o' hlt)]; exact h1 b' o' hne' hlt
  · refine cell_atv ?_
    rw [World.cell?_setCell_other _ _ _ _ (hne R j hR), h2 j hj]; rfl
  · have := World.frozen?_setCells b [v] o w1 ⟨R, j, none⟩
    exact this.trans (h3 j hj)

/-- As 'Inv', without a result's block. -/
abbrev Ext (w W : World) (w' : World) : Prop := (∀ b o, b < W.heap.size → w'.cell? ⟨b, o, none⟩ = W.cell? ⟨b, o, none⟩) ∧ Below w.heap.size w w' ∧ W.heap.size ≤ w'.heap.size
theorem Ext.start {w W : World} (h2 : Below w.heap.size w W) : Ext w W W.drew := ⟨fun _ _ _ => by simp, h2.drew, Nat.le_refl _⟩
theorem Ext.start0 {w W : World} (h2 : Below w.heap.size w W) : Ext w W W := ⟨fun _ _ _ => rfl, h2, Nat.le_refl _⟩
theorem Ext.drew {w W w1 : World} (h : Ext w W w1) : Ext w W w1.drew := ⟨fun b o hlt => by simpa using h.1 b o hlt, h.2.1.drew, h.2.2⟩
theorem Ext.call {w W w1 w2 : World} (hw : w.heap.size ≤ W.heap.size) (h : Ext w W w1) (hb : Below w1.heap.size w1 w2) : Ext w W w2 := by
  obtain ⟨h1, h4, h5⟩ := h
  refine ⟨fun b o hlt => ?_, h4.trans (hb.mono (by omega)), Nat.le_trans h5 hb.size⟩
  rw [hb.cell (p := ⟨b, o, none⟩) (by show b < _; omega)]; exact h1 b o hlt
theorem Ext.alloc {w W w1 : World} (hw : w.heap.size ≤ W.heap.size) (h : Ext w W w1) (o : Obj) : Ext w W (w1.alloc o) :=
  Ext.call hw h ((Below.refl _ _).alloc (Nat.le_refl _) o)
theorem Ext.other {w W w1 : World} (hw : w.heap.size ≤ W.heap.size) (h : Ext w W w1) {b : Nat} (hb : W.heap.size ≤ b) (o : Nat) (v : Value) : Ext w W (w1.setCell ⟨b, o, none⟩ v) := by
  obtain ⟨h1, h4, h5⟩ := h
  have hne : ∀ b' o', b' < W.heap.size → (⟨b, o, none⟩ : Addr) ≠ ⟨b', o', none⟩ := fun b' o' hlt e => by have := congrArg Addr.block e; simp at this; omega
  refine ⟨fun b' o' hlt => ?_, h4.setCell (by show _ ≤ b; omega) v, by simpa [World.setCell] using h5⟩
  rw [World.cell?_setCell_other _ _ _ _ (hne b' o' hlt)]; exact h1 b' o' hlt
theorem results_mid {P : Program} {fn : Func} {p : Tmp} {ty : TypeId} (h : fn.results = #[.cell p ty]) (tmps : Array Value) (w : World) (g : Nat) (cs : List Value) (d : TypeDesc)
    (hp : tmps.getD p undef = .pointer (some ⟨g, 0, none⟩)) (hc : w.rangeAt g 0 cs)
    (hu : P.underlying ty = some d) (hd : d.isRow = true) (hi : (P.info? ty).map (·.size) = some cs.length) :
    (results fn tmps).run P w = .ok (.agg cs.toArray) w := by
  have hp' : tmps[p]?.getD undef = .pointer (some ⟨g, 0, none⟩) := by simpa using hp
  simp [results, h, hp', asAddr, run_loadVar_mid w g 0 ty cs d hc hu hd hi]
/-- A new block's cells are there. -/
theorem there_of_row {w : World} {R : Nat} {C : Array Value} {t : TypeId} (h : w.heap[R]? = some (.cells C t (0, 0))) (n : Nat) (hn : n ≤ C.size) : w.there R 0 n := fun j hj => by
  rw [cell_of_row w R (0 + j) C t _ h]
  refine ⟨?_, by simp [World.frozen?, h]⟩
  rw [Array.getElem?_eq_getElem (by omega)]; rfl
end Go.Proofs.Ytahedampmjfoeaa
