/- Rows of numbers; covariances as factors, carried on: numbers. -/
import Derived.Test.YtfkeljolpcbbkaaPD
import Derived.Deep.MidRow

/- RowA -/
namespace Go.Proofs.Ytfkeljolpcbbkaa
open Go.RowKit

def rowA (n : Nat) (f : Nat → Int) : Array Value := Array.ofFn (n := n) fun i => Value.int .i64 (f i.1)
theorem rowA_size (n : Nat) (f : Nat → Int) : (rowA n f).size = n := by simp [rowA]
theorem rowA_get {n : Nat} (f : Nat → Int) {j : Nat} (h : j < n) : (rowA n f)[j]? = some (.int .i64 (f j)) := by simp [rowA, h]
theorem rowA_none {n : Nat} (f : Nat → Int) {j : Nat} (h : n ≤ j) : (rowA n f)[j]? = none := by simp [rowA, h]
theorem rowA_congr {n : Nat} {f g : Nat → Int} (h : ∀ j, j < n → f j = g j) : rowA n f = rowA n g := by
  unfold rowA
  congr 1
  funext i
  rw [h i.1 i.2]
theorem rowA_set {n : Nat} (f : Nat → Int) {k : Nat} (h : k < n) (v : Int) : (rowA n f).setIfInBounds k (.int .i64 v) = rowA n (upd f k v) := by
  refine Array.ext_getElem? fun i => ?_
  rw [Array.getElem?_setIfInBounds, rowA_size]
  by_cases hik : k = i
  · subst hik
    rw [if_pos rfl, if_pos h, rowA_get _ h]
    simp [upd]
  · rw [if_neg hik]
    by_cases hi : i < n
    · rw [rowA_get _ hi, rowA_get _ hi]
      simp [upd, show ¬ i = k by omega]
    · rw [rowA_none _ (by omega), rowA_none _ (by omega)]
theorem rowA_of {n : Nat} (l : List Value) (f : Nat → Int) (hl : l.length = n) (h : ∀ j, j < n → l[j]? = some (.int .i64 (f j))) : (⟨l⟩ : Array Value) = rowA n f := by
  refine Array.ext_getElem? fun i => ?_
  by_cases hi : i < n
  · rw [rowA_get _ hi]
    simpa using h i hi
  · rw [rowA_none _ (by omega)]
    simp
    omega
theorem Blk.ints {w : World} {B n : Nat} {f : Nat → Int} {t : TypeId} (h : Blk w B (rowA n f) t) : Ints w B 0 n f :=
  ⟨fun i hi => by rw [Nat.zero_add, h.cell, rowA_get _ hi]⟩
theorem Blk.setI {w : World} {B n : Nat} {f : Nat → Int} {t : TypeId} (h : Blk w B (rowA n f) t) {k : Nat} (hk : k < n) (v : Int) : Blk (w.setCell ⟨B, k, none⟩ (.int .i64 v)) B (rowA n (upd f k v)) t := by
  have := h.set (i := k) (.int .i64 v)
  rwa [rowA_set _ hk] at this
theorem Blk.congr {w : World} {B n : Nat} {f g : Nat → Int} {t : TypeId} (h : Blk w B (rowA n f) t) (e : ∀ j, j < n → f j = g j) : Blk w B (rowA n g) t := by
  rw [← rowA_congr e]; exact h
theorem Ints.part {w : World} {B o n : Nat} {f : Nat → Int} (h : Ints w B o n f) (c m : Nat) (hm : c + m ≤ n) : Ints w B (o + c) m (fun i => f (c + i)) :=
  ⟨fun i hi => by rw [Nat.add_assoc]; exact h.at_ (c + i) (by omega)⟩
theorem Ints.below {w w' : World} {B o n N : Nat} {f : Nat → Int} (h : Ints w B o n f) (hb : Below N w w') (hB : B < N) : Ints w' B o n f :=
  ⟨fun i hi => (cellAt hb hB).trans (h.at_ i hi)⟩
theorem Ints.flag {w w' : World} {B o n p q : Nat} {g : Bool} {f : Nat → Int} (h : Ints w B o n f) (hb : B < w.heap.size) (hp : B ≠ p) (k : FlW p q g w w') : Ints w' B o n f :=
  ⟨fun i hi => (k.cell hb (.inl hp)).trans (h.at_ i hi)⟩
theorem Ints.congr {w : World} {B o n : Nat} {f g : Nat → Int} (h : Ints w B o n f) (e : ∀ j, j < n → f j = g j) : Ints w B o n g :=
  ⟨fun i hi => by rw [← e i hi]; exact h.at_ i hi⟩
theorem Ints.drew {w : World} {B o n : Nat} {f : Nat → Int} (h : Ints w B o n f) : Ints w.drew B o n f := ⟨h.at_⟩
theorem rowA_one (n : Nat) (f : Nat → Int) : (rowA n f).all (·.oneCell') = true := by
  rw [Array.all_eq_true]
  intro i hi
  have h1 : i < n := by rwa [rowA_size] at hi
  have h2 := rowA_get f h1
  rw [Array.getElem?_eq_getElem hi] at h2
  injection h2 with h2
  rw [h2]; rfl
theorem Blk.setRow {w : World} {B : Nat} {c d : Array Value} {t : TypeId} (h : Blk w B c t) : Blk (w.setRow B d) B d t := setRow_heap w B c d t (0, 0) h
theorem Blk.otherRow {w : World} {B b : Nat} {c d : Array Value} {t : TypeId} (h : Blk w B c t) (hb : B ≠ b) : Blk (w.setRow b d) B c t := (setRow_other w b B d hb).trans h
theorem below_setRow {N b : Nat} {w w' : World} (h : Below N w w') (hb : N ≤ b) (d : Array Value) : Below N w (w'.setRow b d) :=
  h.trans ⟨rfl, rfl, rfl, by simp, fun i hi => setRow_other w' b i d (by omega)⟩
theorem FlW.row {p o b : Nat} {h : Bool} {w w1 : World} (k : FlW p o h w w1) (hb : w.heap.size ≤ b) (d : Array Value) : FlW p o h w (w1.setRow b d) := ⟨below_setRow k.out hb d⟩
theorem row_load {P : Program} {ops : Array Oper} {rest : List Oper} {o : Oper} {a : Act} {w : World} {Q : Exit → Act → World → Prop} (ty : TypeId) (x : Operand) (hgd : o.guard = none) (ho : o.op = .load ty x)
    (g n : Nat) (f : Nat → Int) (t : TypeId) (hx : a.eval x = .pointer (some ⟨g, 0, none⟩)) (hg : Blk w g (rowA n f) t) (d : TypeDesc)
    (hu : P.underlying ty = some d) (hd : (match d with | .struct _ | .array _ _ => true | _ => false) = true) (hi : (P.info? ty).map (·.size) = some n)
    (h : wpList P ops Q rest (a.put o.dst (.agg (rowA n f))) w) : wpList P ops Q (o :: rest) a w :=
  wpList_load_row hgd ty x ho g hx t _ (0, 0) d hg hu hd (by rw [rowA_size]; exact hi) h
theorem row_wp {P : Program} {o : Oper} {a : Act} {w : World} {K : Act → World → Prop} {Q : Exit → Act → World → Prop} (ty : TypeId) (x : Operand) (ho : o.op = .load ty x)
    (g n : Nat) (f : Nat → Int) (t : TypeId) (hx : a.eval x = .pointer (some ⟨g, 0, none⟩)) (hg : Blk w g (rowA n f) t) (d : TypeDesc)
    (hu : P.underlying ty = some d) (hd : (match d with | .struct _ | .array _ _ => true | _ => false) = true) (hi : (P.info? ty).map (·.size) = some n)
    (h : K (a.put o.dst (.agg (rowA n f))) w) : o.wp P a w K Q :=
  wp_load_row ty x ho g hx t _ (0, 0) d hg hu hd (by rw [rowA_size]; exact hi) h
theorem row_store {P : Program} {ops : Array Oper} {rest : List Oper} {o : Oper} {a : Act} {w : World} {Q : Exit → Act → World → Prop} (ty : TypeId) (x y : Operand) (hgd : o.guard = none) (ho : o.op = .store ty x y)
    (g n : Nat) (f f' : Nat → Int) (t : TypeId) (hx : a.eval x = .pointer (some ⟨g, 0, none⟩)) (hy : a.eval y = .agg (rowA n f)) (hg : Blk w g (rowA n f') t) (hi : (P.info? ty).map (·.size) = some n)
    (h : wpList P ops Q rest (a.put o.dst undef) (w.setRow g (rowA n f))) : wpList P ops Q (o :: rest) a w :=
  wpList_store_row hgd ty x y ho g _ hx hy t _ hg (by rw [rowA_size]; exact hi) (by rw [rowA_size, rowA_size]) (rowA_one n f) h
theorem results_row {P : Program} {fn : Func} {p : Tmp} {ty : TypeId} (h : fn.results = #[.cell p ty]) (tmps : Array Value) (w : World) (g n : Nat) (f : Nat → Int) (t : TypeId) (d : TypeDesc)
    (hp : tmps.getD p undef = .pointer (some ⟨g, 0, none⟩)) (hg : Blk w g (rowA n f) t)
    (hu : P.underlying ty = some d) (hd : (match d with | .struct _ | .array _ _ => true | _ => false) = true) (hi : (P.info? ty).map (·.size) = some n) :
    (results fn tmps).run P w = .ok (.agg (rowA n f)) w :=
  results_cell_row h tmps w g t _ (0, 0) d hp hg hu hd (by rw [rowA_size]; exact hi)
theorem mid_load {P : Program} {ops : Array Oper} {rest : List Oper} {o : Oper} {a : Act} {w : World} {Q : Exit → Act → World → Prop} (ty : TypeId) (x : Operand) (hgd : o.guard = none) (ho : o.op = .load ty x)
    (g off n : Nat) (f : Nat → Int) (hx : a.eval x = .pointer (some ⟨g, off, none⟩)) (hg : Ints w g off n f) (d : TypeDesc)
    (hu : P.underlying ty = some d) (hd : d.isRow = true) (hi : (P.info? ty).map (·.size) = some n)
    (h : wpList P ops Q rest (a.put o.dst (.agg (rowA n f))) w) : wpList P ops Q (o :: rest) a w := by
  refine wpList_load_mid hgd ty x ho g off hx (rowA n f).toList d (fun j v hv => ?_) hu hd (by rw [Array.length_toList, rowA_size]; exact hi) (by simpa using h)
  by_cases hj : j < n
  · have := rowA_get f hj
    rw [Array.getElem?_toList, this] at hv
    injection hv with hv
    rw [← hv]; exact hg.at_ j hj
  · rw [Array.getElem?_toList, rowA_none f (by omega)] at hv; cases hv
theorem run_index_row {P : Program} {t e : TypeId} {n j : Nat} {k : IntKind} (hu : P.underlying t = some (.array n e)) (he : P.underlying e = some (.int .i64)) (hi : (P.info? e).map (·.size) = some 1) (f : Nat → Int) (hj : j < n) (w : World) :
    (Instr.index t (.agg (rowA n f)) (.int k (j : Int))).run P w = .ok (.int .i64 (f j)) w := by
  cases hq : P.info? e with
  | none => simp [hq] at hi
  | some i =>
    have hs : i.size = 1 := by simpa [hq] using hi
    have h1 : (0 : Int) ≤ (j : Int) ∧ (j : Int) < (n : Int) := ⟨by omega, by omega⟩
    have hagg : ∀ w, (isAgg e).run P w = .ok false w := fun w => by
      unfold isAgg
      rw [Sem.run_bind, run_underlying he w]
      rfl
    have hg := rowA_get f hj
    simp [Instr.index, asIntOf, run_underlying hu, h1, sizeOf, typeInfo, hq, hs, part, hagg, hg]
    intro h; omega
theorem index_row {P : Program} {ops : Array Oper} {rest : List Oper} {o : Oper} {a : Act} {w : World} {Q : Exit → Act → World → Prop} (t : TypeId) (x y : Operand) (hgd : o.guard = none) (ho : o.op = .index t x y)
    {e : TypeId} {n j : Nat} {k : IntKind} (f : Nat → Int) (hx : a.eval x = .agg (rowA n f)) (hy : a.eval y = .int k (j : Int)) (hu : P.underlying t = some (.array n e)) (he : P.underlying e = some (.int .i64)) (hi : (P.info? e).map (·.size) = some 1) (hj : j < n)
    (h : wpList P ops Q rest (a.put o.dst (.int .i64 (f j))) w) : wpList P ops Q (o :: rest) a w := by
  refine wpList_plain hgd fun K hK => ?_
  unfold Oper.wp execOp
  simp only [ho, hx, hy, Sem.run_bind, Sem.run_pure, Result.andThen_ok, run_index_row hu he hi f hj w]
  exact hK _ _ h
end Go.Proofs.Ytfkeljolpcbbkaa

/- TriN -/
namespace Go.Proofs.Ytfkeljolpcbbkaa
open Go.RowKit

def mulv (a b : Int) : Int := satv (rnd (satv a * satv b) 30)
def mulh (a b : Int) : Bool := sath a || sath b || sath (rnd (satv a * satv b) 30)
def plc (i j : Int) : Int := j * (j - 1) / 2 + i
def inN (i : Int) : Bool := decide (0 ≤ i) && decide (i < 24)
def aboveB (i j : Int) : Bool := inN i && inN j && decide (i < j)
def uF (f : Nat → Int) (i j : Int) : Int := bif aboveB i j then f (plc i j).toNat else bif decide (i = j) && inN i then 1073741824 else 0
theorem inN_iff (i : Int) : inN i = true ↔ 0 ≤ i ∧ i < 24 := by simp [inN]
theorem inN_no (i : Int) : inN i = false ↔ i < 0 ∨ 23 < i := by
  rw [← Bool.not_eq_true, inN_iff]; omega
theorem aboveB_iff (i j : Int) : aboveB i j = true ↔ 0 ≤ i ∧ i < j ∧ j < 24 := by
  simp only [aboveB, Bool.and_eq_true, inN_iff, decide_eq_true_eq]; omega
theorem aboveB_no (i j : Int) : aboveB i j = false ↔ i < 0 ∨ j ≤ i ∨ 23 < j := by
  rw [← Bool.not_eq_true, aboveB_iff]; omega
theorem plc_bd {i j : Int} (h0 : 0 ≤ i) (h1 : i < j) (h2 : j < 24) : 0 ≤ j * (j - 1) ∧ j * (j - 1) ≤ 506 ∧ 0 ≤ plc i j ∧ plc i j < 276 := by
  unfold plc
  have hj : j = 1 ∨ j = 2 ∨ j = 3 ∨ j = 4 ∨ j = 5 ∨ j = 6 ∨ j = 7 ∨ j = 8 ∨ j = 9 ∨ j = 10 ∨ j = 11 ∨ j = 12 ∨ j = 13 ∨ j = 14 ∨ j = 15 ∨ j = 16 ∨ j = 17 ∨ j = 18 ∨ j = 19 ∨ j = 20 ∨ j = 21 ∨ j = 22 ∨ j = 23 := by omega
  rcases hj with rfl | rfl | rfl | rfl | rfl | rfl | rfl | rfl | rfl | rfl | rfl | rfl | rfl | rfl | rfl | rfl | rfl | rfl | rfl | rfl | rfl | rfl | rfl <;> omega
theorem half_of {b : Int} (h0 : 0 ≤ b) (h1 : b < 24) : 2 * (b * (b - 1) / 2) = b * (b - 1) := by
  have hj : b = 0 ∨ b = 1 ∨ b = 2 ∨ b = 3 ∨ b = 4 ∨ b = 5 ∨ b = 6 ∨ b = 7 ∨ b = 8 ∨ b = 9 ∨ b = 10 ∨ b = 11 ∨ b = 12 ∨ b = 13 ∨ b = 14 ∨ b = 15 ∨ b = 16 ∨ b = 17 ∨ b = 18 ∨ b = 19 ∨ b = 20 ∨ b = 21 ∨ b = 22 ∨ b = 23 := by omega
  rcases hj with rfl | rfl | rfl | rfl | rfl | rfl | rfl | rfl | rfl | rfl | rfl | rfl | rfl | rfl | rfl | rfl | rfl | rfl | rfl | rfl | rfl | rfl | rfl | rfl <;> decide
theorem plc_inj {i j x y : Int} (h0 : 0 ≤ i) (h1 : i < j) (h2 : j < 24) (k0 : 0 ≤ x) (k1 : x < y) (k2 : y < 24) (h : plc i j = plc x y) : i = x ∧ j = y := by
  have hs : ∀ {a b c d : Int}, 0 ≤ a → a < b → b < 24 → 0 ≤ c → c < d → d < 24 → b < d → plc a b < plc c d := by
    intro a b c d a0 a1 a2 c0 c1 c2 hbd
    have e1 := half_of (show 0 ≤ b by omega) (show b < 24 by omega)
    have e2 := half_of (show 0 ≤ d by omega) (show d < 24 by omega)
    have e3 : (b + 1) * b ≤ d * (d - 1) := Int.mul_le_mul (by omega) (by omega) (by omega) (by omega)
    have e4 : (b + 1) * b = b * (b - 1) + 2 * b := by grind
    unfold plc
    omega
  rcases Int.lt_trichotomy j y with hjy | hjy | hjy
  · have := hs h0 h1 h2 k0 k1 k2 hjy; omega
  · subst hjy
    unfold plc at h
    omega
  · have := hs k0 k1 k2 h0 h1 h2 hjy; omega
def atX (f : Nat → Int) (i : Int) (m : Nat) : Nat → Int := fun t => uF f i ((m + t : Nat) : Int)
def atY (f : Nat → Int) (j : Int) (m : Nat) : Nat → Int := fun t => mulv (uF f j ((m + t : Nat) : Int)) (f (276 + (m + t)))
def anyY (f : Nat → Int) (j : Int) (m : Nat) : Nat → Bool
  | 0 => false
  | k + 1 => anyY f j m k || mulh (uF f j ((m + k : Nat) : Int)) (f (276 + (m + k)))
def atS (f : Nat → Int) (i j : Int) : Int := sumP (atX f i (max i j).toNat) (atY f j (max i j).toNat) (24 - (max i j).toNat)
def atV (f : Nat → Int) (i j : Int) : Int := bif inN i && inN j then satv (rnd (atS f i j) 30) else 0
def atH (f : Nat → Int) (i j : Int) : Bool := inN i && inN j && (anyY f j (max i j).toNat (24 - (max i j).toNat) || anyP (atX f i (max i j).toNat) (atY f j (max i j).toNat) (24 - (max i j).toNat) || sath (rnd (atS f i j) 30))
theorem uF_bd {f : Nat → Int} (h : ∀ k, -9223372036854775808 ≤ f k ∧ f k ≤ 9223372036854775807) (i j : Int) : -9223372036854775808 ≤ uF f i j ∧ uF f i j ≤ 9223372036854775807 := by
  unfold uF
  cases aboveB i j
  · cases decide (i = j) && inN i
    · rw [cond_false, cond_false]; omega
    · rw [cond_false, cond_true]; omega
  · exact h _
def condF (f : Nat → Int) : Nat → Int := fun k => if k < 276 then satv (f k) else clampv (f k) 1 72057594037927936
def hitD (f : Nat → Int) : Nat → Bool
  | 0 => false
  | k + 1 => hitD f k || clamph (f (276 + k)) 1 72057594037927936
def hitU (f : Nat → Int) : Nat → Bool
  | 0 => false
  | k + 1 => hitU f k || sath (f k)
def condH (f : Nat → Int) : Bool := hitD f 24 || hitU f 276
def partD (f : Nat → Int) (t : Nat) : Nat → Int := fun k => if 276 ≤ k ∧ k < 276 + t then clampv (f k) 1 72057594037927936 else f k
def partU (f : Nat → Int) (t : Nat) : Nat → Int := fun k => if 276 ≤ k then clampv (f k) 1 72057594037927936 else if k < t then satv (f k) else f k
theorem partD_zero (f : Nat → Int) : partD f 0 = f := by
  funext k; unfold partD; rw [if_neg (by omega)]
theorem partD_next (f : Nat → Int) (t : Nat) : upd (partD f t) (276 + t) (clampv (f (276 + t)) 1 72057594037927936) = partD f (t + 1) := by
  funext k; unfold upd partD
  by_cases h : k = 276 + t
  · subst h; rw [if_pos rfl, if_pos (by omega)]
  · rw [if_neg h]
    by_cases h2 : 276 ≤ k ∧ k < 276 + t
    · rw [if_pos h2, if_pos (by omega)]
    · rw [if_neg h2, if_neg (by omega)]
theorem partU_zero {f : Nat → Int} {k : Nat} (hk : k < 300) : partD f 24 k = partU f 0 k := by
  unfold partD partU
  by_cases h : 276 ≤ k
  · rw [if_pos (by omega), if_pos h]
  · rw [if_neg (by omega), if_neg h, if_neg (by omega)]
theorem partU_next (f : Nat → Int) {t : Nat} (ht : t < 276) : upd (partU f t) t (satv (f t)) = partU f (t + 1) := by
  funext k; unfold upd partU
  by_cases h : k = t
  · subst h; rw [if_pos rfl, if_neg (by omega), if_pos (by omega)]
  · rw [if_neg h]
    by_cases h2 : 276 ≤ k
    · rw [if_pos h2, if_pos h2]
    · rw [if_neg h2, if_neg h2]
      by_cases h3 : k < t
      · rw [if_pos h3, if_pos (by omega)]
      · rw [if_neg h3, if_neg (by omega)]
theorem partU_low (f : Nat → Int) {t : Nat} (ht : t < 276) : partD f 24 t = f t := by unfold partD; rw [if_neg (by omega)]
theorem partU_all {f : Nat → Int} (k : Nat) : partU f 276 k = condF f k := by
  unfold partU condF
  by_cases h : 276 ≤ k
  · rw [if_pos h, if_neg (by omega)]
  · rw [if_neg h, if_pos (by omega), if_pos (by omega)]
def newF (l : Nat → Int) (n : Nat) : Nat → Int := fun k => if k < 276 then 0 else if k - 276 < n then clampv (l (k - 276)) 1 72057594037927936 else 1
def newH (l : Nat → Int) (n : Nat) : Nat → Bool
  | 0 => false
  | k + 1 => newH l n k || (decide (k < n) && clamph (l k) 1 72057594037927936)
def mostF (f : Nat → Int) : Nat → Int
  | 0 => f 276
  | k + 1 => max (mostF f k) (f (276 + (k + 1)))
def goodB (f : Nat → Int) : Bool := !condH f
def diagF (f : Nat → Int) (t : Nat) : Nat → Int := fun k => if k < t then atV f k k else 0
def diagH (f : Nat → Int) : Nat → Bool
  | 0 => false
  | k + 1 => diagH f k || atH f k k
theorem diagF_zero (f : Nat → Int) : diagF f 0 = fun _ => 0 := by funext k; unfold diagF; rw [if_neg (by omega)]
theorem diagF_next (f : Nat → Int) (t : Nat) : upd (diagF f t) t (atV f t t) = diagF f (t + 1) := by
  funext k; unfold upd diagF
  by_cases h : k = t
  · subst h; rw [if_pos rfl, if_pos (by omega)]
  · rw [if_neg h]
    by_cases h2 : k < t
    · rw [if_pos h2, if_pos (by omega)]
    · rw [if_neg h2, if_neg (by omega)]
theorem atV_bd (f : Nat → Int) (i j : Int) : -1152921504606846976 ≤ atV f i j ∧ atV f i j ≤ 1152921504606846976 := by
  unfold atV
  cases inN i && inN j
  · rw [cond_false]; omega
  · rw [cond_true]; exact ⟨satv_lo _, satv_hi _⟩
end Go.Proofs.Ytfkeljolpcbbkaa

/- ThoN -/
namespace Go.Proofs.Ytfkeljolpcbbkaa
open Go.RowKit

def dotv (xs ys : Nat → Int) (n : Nat) : Int := satv (rnd (sumP xs ys n) 30)
def quov (a b : Int) : Int := divv (satv a * 2 ^ 30) (satv b)
def quoh (a b : Int) : Bool := sath a || sath b || divh (satv a * 2 ^ 30) (satv b)
def rowJ (W : Nat → Int) (j : Nat) : Nat → Int := fun k => W (48 * j + k)
def yF (W e : Nat → Int) (j : Nat) : Nat → Int := fun k => mulv (W (48 * j + k)) (e k)
def dF (W e : Nat → Int) (j : Nat) : Int := clampv (dotv (rowJ W j) (yF W e j) 48) 1 72057594037927936
def uS (W e : Nat → Int) (j i : Nat) : Int := quov (dotv (rowJ W i) (yF W e j) 48) (dF W e j)
end Go.Proofs.Ytfkeljolpcbbkaa

/- ThoL -/
namespace Go.Proofs.Ytfkeljolpcbbkaa
open Go.RowKit

def satZ : Int → Int
  | .ofNat n => bif Nat.ble n 1152921504606846976 then .ofNat n else .ofNat 1152921504606846976
  | .negSucc n => bif Nat.ble n 1152921504606846975 then .negSucc n else .negSucc 1152921504606846975
def sathZ : Int → Bool
  | .ofNat n => !Nat.ble n 1152921504606846976
  | .negSucc n => !Nat.ble n 1152921504606846975
def rndZ : Int → Int
  | .ofNat n => .ofNat ((n + 536870912) / 1073741824)
  | .negSucc n => Int.negOfNat ((n + 1 + 536870912) / 1073741824)
def zeroI : Int → Bool
  | .ofNat n => Nat.beq n 0
  | .negSucc _ => false
theorem satv_zero : satv 0 = 0 := by decide
theorem sath_zero : sath 0 = false := by decide
theorem rnd_zero : rnd 0 30 = 0 := by decide
def mulZ (a b : Int) : Int := bif zeroI a then 0 else bif zeroI b then 0 else satZ (rndZ (satZ a * satZ b))
def mulhZ (a b : Int) : Bool := bif zeroI a then sathZ b else bif zeroI b then sathZ a else sathZ a || sathZ b || sathZ (rndZ (satZ a * satZ b))
def subZ (a b : Int) : Int := bif zeroI b then satZ a else satZ (satZ a - satZ b)
def subhZ (a b : Int) : Bool := bif zeroI b then sathZ a else sathZ a || sathZ b || sathZ (satZ a - satZ b)
def quoZ (a b : Int) : Int := bif zeroI a && !zeroI (satZ b) then 0 else quov a b
def quohZ (a b : Int) : Bool := bif zeroI a && !zeroI (satZ b) then sathZ b else quoh a b
def forceI {α : Type} (z : Int) (f : Int → α) : α := match z with
  | .ofNat 0 => f 0
  | .ofNat (m + 1) => f (.ofNat (m + 1))
  | .negSucc 0 => f (.negSucc 0)
  | .negSucc (m + 1) => f (.negSucc (m + 1))
def forceB {α : Type} (b : Bool) (f : Bool → α) : α := match b with
  | true => f true
  | false => f false
def forceL {α : Type} : List Int → (List Int → α) → α
  | [], f => f []
  | a :: l, f => forceI a fun z => forceL l fun m => f (z :: m)
def forceLL {α : Type} : List (List Int) → (List (List Int) → α) → α
  | [], f => f []
  | a :: l, f => forceL a fun z => forceLL l fun m => f (z :: m)
def zip2F (f : Int → Int → Int) : List Int → List Int → List Int
  | a :: l, b :: m => forceI (f a b) fun z => z :: zip2F f l m
  | _, _ => []
def any2 (f : Int → Int → Bool) : List Int → List Int → Bool
  | a :: l, b :: m => any2 f l m || f a b
  | _, _ => false
def revOn : List Int → List Int → List Int
  | [], m => m
  | a :: l, m => revOn l (a :: m)
def mapN (f : Nat → Int) : List Nat → List Int
  | [] => []
  | a :: l => forceI (f a) fun z => z :: mapN f l
def mapLL (f : Nat → List Int) : List Nat → List (List Int)
  | [] => []
  | a :: l => f a :: mapLL f l
def cellL (l : List Int) (k : Nat) : Int := l.getD k 0
def dsumZ : List Int → List Int → Int
  | a :: l, b :: m => bif zeroI a then dsumZ l m else bif zeroI b then dsumZ l m else satZ a * satZ b + dsumZ l m
  | _, _ => 0
def dotZ (l m : List Int) : Int := satZ (rndZ (dsumZ l m))
def dothZ (l m : List Int) : Bool := any2 (fun a b => sathZ a || sathZ b) l m || sathZ (rndZ (dsumZ l m))
def quosLZ (y : List Int) (d : Int) : List (List Int) → List Int
  | [] => []
  | r :: l => forceI (quoZ (dotZ r y) d) fun z => z :: quosLZ y d l
def quosHZ (y : List Int) (d : Int) : List (List Int) → Bool
  | [] => false
  | r :: l => quosHZ y d l || (dothZ r y || quohZ (dotZ r y) d)
def takLZ (rj : List Int) : List Int → List (List Int) → List (List Int)
  | u :: us, r :: l => zip2F (fun a b => subZ a (mulZ u b)) r rj :: takLZ rj us l
  | _, _ => []
def takHLZ (rj : List Int) : List Int → List (List Int) → Bool
  | u :: us, r :: l => takHLZ rj us l || any2 (fun a b => mulhZ u b || subhZ a (mulZ u b)) r rj
  | _, _ => false
def stLZ (e : List Int) : Nat → List (List Int) → List Int → List Int → Bool → List Int × Bool
  | n + 1, rj :: rest, au, ad, h =>
    forceL (zip2F mulZ rj e) fun y => forceI (clampv (dotZ rj y) 1 72057594037927936) fun d => forceL (quosLZ y d rest) fun us =>
      forceB (h || (any2 mulhZ rj e || dothZ rj y || clamph (dotZ rj y) 1 72057594037927936 || (quosHZ y d rest || takHLZ rj us rest))) fun h' =>
        forceLL (takLZ rj us rest) fun rest' => stLZ e n rest' (revOn us au) (d :: ad) h'
  | _, _, au, ad, h => (au ++ ad, h)
def dotsLZ (r : List Int) : List (List Int) → List Int
  | [] => []
  | c :: l => forceI (dotZ r c) fun z => z :: dotsLZ r l
def dotsHZ (r : List Int) : List (List Int) → Bool
  | [] => false
  | c :: l => dotsHZ r l || dothZ r c
def stepZ (l : List Int) : List Int × Bool :=
  forceL (mapN (condF (cellL l)) (List.range 300)) fun cp =>
  forceL (mapN (fun k => satZ (cellL l (300 + k))) (List.range 576)) fun g =>
  forceL (mapN (fun k => if k < 24 then cellL cp (276 + k) else clampv (cellL l (876 + (k - 24))) 0 72057594037927936) (List.range 48)) fun e =>
  forceLL (mapLL (fun k => mapN (fun t => uF (cellL cp) (t : Int) (k : Int)) (List.range (k + 1))) (List.range 24)) fun cols =>
  forceLL (mapLL (fun i => mapN (fun t => cellL g (24 * i + t)) (List.range 24)) (List.range 24)) fun gs =>
  forceLL (mapLL (fun i => dotsLZ (gs.getD i []) cols ++ mapN (fun k => if k = i then 1073741824 else 0) (List.range 24)) (List.range 24).reverse) fun rows =>
  forceB (condH (cellL l) || (List.range 576).any (fun k => sathZ (cellL l (300 + k))) || gs.any (fun r => dotsHZ r cols) || (List.range 24).any (fun k => clamph (cellL l (876 + k)) 0 72057594037927936)) fun h =>
  stLZ e 24 rows [] [] h
def encN : List Int → Nat
  | [] => 0
  | a :: r => (a + 9223372036854775808).toNat + 18446744073709551616 * encN r
def decK (k : Nat) (R : Int) : Int := ((R.toNat / 2 ^ (64 * k) % 18446744073709551616 : Nat) : Int) - 9223372036854775808
end Go.Proofs.Ytfkeljolpcbbkaa
