/- Rows of whole numbers in memory, known whole. Nothing of a program is used. -/
import Derived.Test.YtaehmhdcniegkaaPD
import Derived.Deep.MidRow
namespace Go.Proofs.Ytaehmhdcniegkaa
open Go.RowKit

def rowA (n : Nat) (f : Nat → Int) : Array Value := Array.ofFn (n := n) fun i => Value.int .i64 (f i.1)
theorem rowA_size (n : Nat) (f : Nat → Int) : (rowA n f).size = n := by simp [rowA]
theorem rowA_get {n : Nat} (f : Nat → Int) {j : Nat} (h : j < n) : (rowA n f)[j]? = some (.int .i64 (f j)) := by simp [rowA, h]
theorem rowA_none {n : Nat} (f : Nat → Int) {j : Nat} (h : n ≤ j) : (rowA n f)[j]? = none := by simp [rowA, h]
theorem rowA_congr {n : Nat} {f g : Nat → Int} (h : ∀ j, j < n → f j = g j) : rowA n f = rowA n g := by
  unfold rowA
  congr 1
  funext i
  rw [h i.1 i.2]
theorem rowA_set {n : Nat} (f : Nat → Int) {k : Nat} (h : k < n) (v : Int) : (rowA n f).setIfInBounds k (.int .i64 v) = rowA n (upd f k v) := by
  refine Array.ext_getElem? fun i => ?_
  rw [Array.getElem?_setIfInBounds, rowA_size]
  by_cases hik : k = i
  · subst hik
    rw [if_pos rfl, if_pos h, rowA_get _ h]
    simp [upd]
  · rw [if_neg hik]
    by_cases hi : i < n
    · rw [rowA_get _ hi, rowA_get _ hi]
      simp [upd, show ¬ i = k by omega]
    · rw [rowA_none _ (by omega), rowA_none _ (by omega)]
theorem rowA_inj {n : Nat} {f g : Nat → Int} (h : rowA n f = rowA n g) {j : Nat} (hj : j < n) : f j = g j := by
  have h1 := congrArg (·[j]?) h
  simp only [rowA_get _ hj] at h1
  injection h1 with h1
  injection h1
theorem rowA_of {n : Nat} (l : List Value) (f : Nat → Int) (hl : l.length = n) (h : ∀ j, j < n → l[j]? = some (.int .i64 (f j))) : (⟨l⟩ : Array Value) = rowA n f := by
  refine Array.ext_getElem? fun i => ?_
  by_cases hi : i < n
  · rw [rowA_get _ hi]
    simpa using h i hi
  · rw [rowA_none _ (by omega)]
    simp
    omega
theorem Blk.ints {w : World} {B n : Nat} {f : Nat → Int} {t : TypeId} (h : Blk w B (rowA n f) t) : Ints w B 0 n f :=
  ⟨fun i hi => by rw [Nat.zero_add, h.cell, rowA_get _ hi]⟩
theorem Blk.setI {w : World} {B n : Nat} {f : Nat → Int} {t : TypeId} (h : Blk w B (rowA n f) t) {k : Nat} (hk : k < n) (v : Int) : Blk (w.setCell ⟨B, k, none⟩ (.int .i64 v)) B (rowA n (upd f k v)) t := by
  have := h.set (i := k) (.int .i64 v)
  rwa [rowA_set _ hk] at this
theorem Blk.congr {w : World} {B n : Nat} {f g : Nat → Int} {t : TypeId} (h : Blk w B (rowA n f) t) (e : ∀ j, j < n → f j = g j) : Blk w B (rowA n g) t := by
  rw [← rowA_congr e]; exact h
theorem Ints.part {w : World} {B o n : Nat} {f : Nat → Int} (h : Ints w B o n f) (c m : Nat) (hm : c + m ≤ n) : Ints w B (o + c) m (fun i => f (c + i)) :=
  ⟨fun i hi => by rw [Nat.add_assoc]; exact h.at_ (c + i) (by omega)⟩
theorem Ints.below {w w' : World} {B o n N : Nat} {f : Nat → Int} (h : Ints w B o n f) (hb : Below N w w') (hB : B < N) : Ints w' B o n f :=
  ⟨fun i hi => (cellAt hb hB).trans (h.at_ i hi)⟩
theorem Ints.flag {w w' : World} {B o n p q : Nat} {g : Bool} {f : Nat → Int} (h : Ints w B o n f) (hb : B < w.heap.size) (hp : B ≠ p) (k : FlW p q g w w') : Ints w' B o n f :=
  ⟨fun i hi => (k.cell hb (.inl hp)).trans (h.at_ i hi)⟩
theorem Ints.congr {w : World} {B o n : Nat} {f g : Nat → Int} (h : Ints w B o n f) (e : ∀ j, j < n → f j = g j) : Ints w B o n g :=
  ⟨fun i hi => by rw [← e i hi]; exact h.at_ i hi⟩
theorem Ints.drew {w : World} {B o n : Nat} {f : Nat → Int} (h : Ints w B o n f) : Ints w.drew B o n f := ⟨h.at_⟩
theorem upd_same (f : Nat → Int) (k : Nat) (v : Int) : upd f k v k = v := by simp [upd]
theorem upd_other (f : Nat → Int) {k j : Nat} (v : Int) (h : j ≠ k) : upd f k v j = f j := by simp [upd, h]
theorem rowA_one (n : Nat) (f : Nat → Int) : (rowA n f).all (·.oneCell') = true := by
  rw [Array.all_eq_true]
  intro i hi
  have h1 : i < n := by rwa [rowA_size] at hi
  have h2 := rowA_get f h1
  rw [Array.getElem?_eq_getElem hi] at h2
  injection h2 with h2
  rw [h2]; rfl
theorem Blk.setRow {w : World} {B : Nat} {c d : Array Value} {t : TypeId} (h : Blk w B c t) : Blk (w.setRow B d) B d t := setRow_heap w B c d t (0, 0) h
theorem Blk.otherRow {w : World} {B b : Nat} {c d : Array Value} {t : TypeId} (h : Blk w B c t) (hb : B ≠ b) : Blk (w.setRow b d) B c t := (setRow_other w b B d hb).trans h
theorem below_setRow {N b : Nat} {w w' : World} (h : Below N w w') (hb : N ≤ b) (d : Array Value) : Below N w (w'.setRow b d) :=
  h.trans ⟨rfl, rfl, rfl, by simp, fun i hi => setRow_other w' b i d (by omega)⟩
theorem FlW.row {p o b : Nat} {h : Bool} {w w1 : World} (k : FlW p o h w w1) (hb : w.heap.size ≤ b) (d : Array Value) : FlW p o h w (w1.setRow b d) := ⟨below_setRow k.out hb d⟩
/-- A whole row read; a whole row laid. -/
theorem row_load {P : Program} {ops : Array Oper} {rest : List Oper} {o : Oper} {a : Act} {w : World} {Q : Exit → Act → World → Prop} (ty : TypeId) (x : Operand) (hgd : o.guard = none) (ho : o.op = .load ty x)
    (g n : Nat) (f : Nat → Int) (t : TypeId) (hx : a.eval x = .pointer (some ⟨g, 0, none⟩)) (hg : Blk w g (rowA n f) t) (d : TypeDesc)
    (hu : P.underlying ty = some d) (hd : (match d with | .struct _ | .array _ _ => true | _ => false) = true) (hi : (P.info? ty).map (·.size) = some n)
    (h : wpList P ops Q rest (a.put o.dst (.agg (rowA n f))) w) : wpList P ops Q (o :: rest) a w :=
  wpList_load_row hgd ty x ho g hx t _ (0, 0) d hg hu hd (by rw [rowA_size]; exact hi) h
theorem row_wp {P : Program} {o : Oper} {a : Act} {w : World} {K : Act → World → Prop} {Q : Exit → Act → World → Prop} (ty : TypeId) (x : Operand) (ho : o.op = .load ty x)
    (g n : Nat) (f : Nat → Int) (t : TypeId) (hx : a.eval x = .pointer (some ⟨g, 0, none⟩)) (hg : Blk w g (rowA n f) t) (d : TypeDesc)
    (hu : P.underlying ty = some d) (hd : (match d with | .struct _ | .array _ _ => true | _ => false) = true) (hi : (P.info? ty).map (·.size) = some n)
    (h : K (a.put o.dst (.agg (rowA n f))) w) : o.wp P a w K Q :=
  wp_load_row ty x ho g hx t _ (0, 0) d hg hu hd (by rw [rowA_size]; exact hi) h
theorem row_store {P : Program} {ops : Array Oper} {rest : List Oper} {o : Oper} {a : Act} {w : World} {Q : Exit → Act → World → Prop} (ty : TypeId) (x y : Operand) (hgd : o.guard = none) (ho : o.op = .store ty x y)
    (g n : Nat) (f f' : Nat → Int) (t : TypeId) (hx : a.eval x = .pointer (some ⟨g, 0, none⟩)) (hy : a.eval y = .agg (rowA n f)) (hg : Blk w g (rowA n f') t) (hi : (P.info? ty).map (·.size) = some n)
    (h : wpList P ops Q rest (a.put o.dst undef) (w.setRow g (rowA n f))) : wpList P ops Q (o :: rest) a w :=
  wpList_store_row hgd ty x y ho g _ hx hy t _ hg (by rw [rowA_size]; exact hi) (by rw [rowA_size, rowA_size]) (rowA_one n f) h
theorem results_row {P : Program} {fn : Func} {p : Tmp} {ty : TypeId} (h : fn.results = #[.cell p ty]) (tmps : Array Value) (w : World) (g n : Nat) (f : Nat → Int) (t : TypeId) (d : TypeDesc)
    (hp : tmps.getD p undef = .pointer (some ⟨g, 0, none⟩)) (hg : Blk w g (rowA n f) t)
    (hu : P.underlying ty = some d) (hd : (match d with | .struct _ | .array _ _ => true | _ => false) = true) (hi : (P.info? ty).map (·.size) = some n) :
    (results fn tmps).run P w = .ok (.agg (rowA n f)) w :=
  results_cell_row h tmps w g t _ (0, 0) d hp hg hu hd (by rw [rowA_size]; exact hi)
/-- A part of a row, read. -/
theorem mid_load {P : Program} {ops : Array Oper} {rest : List Oper} {o : Oper} {a : Act} {w : World} {Q : Exit → Act → World → Prop} (ty : TypeId) (x : Operand) (hgd : o.guard = none) (ho : o.op = .load ty x)
    (g off n : Nat) (f : Nat → Int) (hx : a.eval x = .pointer (some ⟨g, off, none⟩)) (hg : Ints w g off n f) (d : TypeDesc)
    (hu : P.underlying ty = some d) (hd : d.isRow = true) (hi : (P.info? ty).map (·.size) = some n)
    (h : wpList P ops Q rest (a.put o.dst (.agg (rowA n f))) w) : wpList P ops Q (o :: rest) a w := by
  refine wpList_load_mid hgd ty x ho g off hx (rowA n f).toList d (fun j v hv => ?_) hu hd (by rw [Array.length_toList, rowA_size]; exact hi) (by simpa using h)
  by_cases hj : j < n
  · have := rowA_get f hj
    rw [Array.getElem?_toList, this] at hv
    injection hv with hv
    rw [← hv]; exact hg.at_ j hj
  · rw [Array.getElem?_toList, rowA_none f (by omega)] at hv; cases hv
/-- A number of a row. -/
theorem run_index_row {P : Program} {t e : TypeId} {n j : Nat} {k : IntKind} (hu : P.underlying t = some (.array n e)) (he : P.underlying e = some (.int .i64)) (hi : (P.info? e).map (·.size) = some 1) (f : Nat → Int) (hj : j < n) (w : World) :
    (Instr.index t (.agg (rowA n f)) (.int k (j : Int))).run P w = .ok (.int .i64 (f j)) w := by
  cases hq : P.info? e with
  | none => simp [hq] at hi
  | some i =>
    have hs : i.size = 1 := by simpa [hq] using hi
    have h1 : (0 : Int) ≤ (j : Int) ∧ (j : Int) < (n : Int) := ⟨by omega, by omega⟩
    have hagg : ∀ w, (isAgg e).run P w = .ok false w := fun w => by
      unfold isAgg
      rw [Sem.run_bind, run_underlying he w]
      rfl
    have hg := rowA_get f hj
    simp [Instr.index, asIntOf, run_underlying hu, h1, sizeOf, typeInfo, hq, hs, part, hagg, hg]
    intro h; omega
theorem index_row {P : Program} {ops : Array Oper} {rest : List Oper} {o : Oper} {a : Act} {w : World} {Q : Exit → Act → World → Prop} (t : TypeId) (x y : Operand) (hgd : o.guard = none) (ho : o.op = .index t x y)
    {e : TypeId} {n j : Nat} {k : IntKind} (f : Nat → Int) (hx : a.eval x = .agg (rowA n f)) (hy : a.eval y = .int k (j : Int)) (hu : P.underlying t = some (.array n e)) (he : P.underlying e = some (.int .i64)) (hi : (P.info? e).map (·.size) = some 1) (hj : j < n)
    (h : wpList P ops Q rest (a.put o.dst (.int .i64 (f j))) w) : wpList P ops Q (o :: rest) a w := by
  refine wpList_plain hgd fun K hK => ?_
  unfold Oper.wp execOp
  simp only [ho, hx, hy, Sem.run_bind, Sem.run_pure, Result.andThen_ok, run_index_row hu he hi f hj w]
  exact hK _ _ h
end Go.Proofs.Ytaehmhdcniegkaa
