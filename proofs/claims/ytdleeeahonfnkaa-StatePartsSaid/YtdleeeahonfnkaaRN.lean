/- Rows of numbers; covariances as factors, carried on: numbers. -/
import Derived.Test.YtdleeeahonfnkaaPD
import Derived.Deep.MidRow

/- RowA -/
namespace Go.Proofs.Ytdleeeahonfnkaa
open Go.RowKit

def rowA (n : Nat) (f : Nat → Int) : Array Value := Array.ofFn (n := n) fun i => Value.int .i64 (f i.1)
theorem rowA_size (n : Nat) (f : Nat → Int) : (rowA n f).size = n := by simp [rowA]
theorem rowA_get {n : Nat} (f : Nat → Int) {j : Nat} (h : j < n) : (rowA n f)[j]? = some (.int .i64 (f j)) := by simp [rowA, h]
theorem rowA_none {n : Nat} (f : Nat → Int) {j : Nat} (h : n ≤ j) : (rowA n f)[j]? = none := by simp [rowA, h]
theorem rowA_congr {n : Nat} {f g : Nat → Int} (h : ∀ j, j < n → f j = g j) : rowA n f = rowA n g := by
  unfold rowA
  congr 1
  funext i
  rw [h i.1 i.2]
theorem rowA_set {n : Nat} (f : Nat → Int) {k : Nat} (h : k < n) (v : Int) : (rowA n f).setIfInBounds k (.int .i64 v) = rowA n (upd f k v) := by
  refine Array.ext_getElem? fun i => ?_
  rw [Array.getElem?_setIfInBounds, rowA_size]
  by_cases hik : k = i
  · subst hik
    rw [if_pos rfl, if_pos h, rowA_get _ h]
    simp [upd]
  · rw [if_neg hik]
    by_cases hi : i < n
    · rw [rowA_get _ hi, rowA_get _ hi]
      simp [upd, show ¬ i = k by omega]
    · rw [rowA_none _ (by omega), rowA_none _ (by omega)]
theorem rowA_inj {n : Nat} {f g : Nat → Int} (h : rowA n f = rowA n g) {j : Nat} (hj : j < n) : f j = g j := by
  have h1 := congrArg (·[j]?) h
  simp only [rowA_get _ hj] at h1
  injection h1 with h1
  injection h1
theorem rowA_of {n : Nat} (l : List Value) (f : Nat → Int) (hl : l.length = n) (h : ∀ j, j < n → l[j]? = some (.int .i64 (f j))) : (⟨l⟩ : Array Value) = rowA n f := by
  refine Array.ext_getElem? fun i => ?_
  by_cases hi : i < n
  · rw [rowA_get _ hi]
    simpa using h i hi
  · rw [rowA_none _ (by omega)]
    simp
    omega
theorem Blk.ints {w : World} {B n : Nat} {f : Nat → Int} {t : TypeId} (h : Blk w B (rowA n f) t) : Ints w B 0 n f :=
  ⟨fun i hi => by rw [Nat.zero_add, h.cell, rowA_get _ hi]⟩
theorem Blk.setI {w : World} {B n : Nat} {f : Nat → Int} {t : TypeId} (h : Blk w B (rowA n f) t) {k : Nat} (hk : k < n) (v : Int) : Blk (w.setCell ⟨B, k, none⟩ (.int .i64 v)) B (rowA n (upd f k v)) t := by
  have := h.set (i := k) (.int .i64 v)
  rwa [rowA_set _ hk] at this
theorem Blk.congr {w : World} {B n : Nat} {f g : Nat → Int} {t : TypeId} (h : Blk w B (rowA n f) t) (e : ∀ j, j < n → f j = g j) : Blk w B (rowA n g) t := by
  rw [← rowA_congr e]; exact h
theorem Ints.part {w : World} {B o n : Nat} {f : Nat → Int} (h : Ints w B o n f) (c m : Nat) (hm : c + m ≤ n) : Ints w B (o + c) m (fun i => f (c + i)) :=
  ⟨fun i hi => by rw [Nat.add_assoc]; exact h.at_ (c + i) (by omega)⟩
theorem Ints.below {w w' : World} {B o n N : Nat} {f : Nat → Int} (h : Ints w B o n f) (hb : Below N w w') (hB : B < N) : Ints w' B o n f :=
  ⟨fun i hi => (cellAt hb hB).trans (h.at_ i hi)⟩
theorem Ints.flag {w w' : World} {B o n p q : Nat} {g : Bool} {f : Nat → Int} (h : Ints w B o n f) (hb : B < w.heap.size) (hp : B ≠ p) (k : FlW p q g w w') : Ints w' B o n f :=
  ⟨fun i hi => (k.cell hb (.inl hp)).trans (h.at_ i hi)⟩
theorem Ints.congr {w : World} {B o n : Nat} {f g : Nat → Int} (h : Ints w B o n f) (e : ∀ j, j < n → f j = g j) : Ints w B o n g :=
  ⟨fun i hi => by rw [← e i hi]; exact h.at_ i hi⟩
theorem Ints.drew {w : World} {B o n : Nat} {f : Nat → Int} (h : Ints w B o n f) : Ints w.drew B o n f := ⟨h.at_⟩
theorem upd_same (f : Nat → Int) (k : Nat) (v : Int) : upd f k v k = v := by simp [upd]
theorem upd_other (f : Nat → Int) {k j : Nat} (v : Int) (h : j ≠ k) : upd f k v j = f j := by simp [upd, h]
theorem rowA_one (n : Nat) (f : Nat → Int) : (rowA n f).all (·.oneCell') = true := by
  rw [Array.all_eq_true]
  intro i hi
  have h1 : i < n := by rwa [rowA_size] at hi
  have h2 := rowA_get f h1
  rw [Array.getElem?_eq_getElem hi] at h2
  injection h2 with h2
  rw [h2]; rfl
theorem Blk.setRow {w : World} {B : Nat} {c d : Array Value} {t : TypeId} (h : Blk w B c t) : Blk (w.setRow B d) B d t := setRow_heap w B c d t (0, 0) h
theorem Blk.otherRow {w : World} {B b : Nat} {c d : Array Value} {t : TypeId} (h : Blk w B c t) (hb : B ≠ b) : Blk (w.setRow b d) B c t := (setRow_other w b B d hb).trans h
theorem below_setRow {N b : Nat} {w w' : World} (h : Below N w w') (hb : N ≤ b) (d : Array Value) : Below N w (w'.setRow b d) :=
  h.trans ⟨rfl, rfl, rfl, by simp, fun i hi => setRow_other w' b i d (by omega)⟩
theorem FlW.row {p o b : Nat} {h : Bool} {w w1 : World} (k : FlW p o h w w1) (hb : w.heap.size ≤ b) (d : Array Value) : FlW p o h w (w1.setRow b d) := ⟨below_setRow k.out hb d⟩
/-- A whole row read; a whole row laid. -/
theorem row_load {P : Program} {ops : Array Oper} {rest : List Oper} {o : Oper} {a : Act} {w : World} {Q : Exit → Act → World → Prop} (ty : TypeId) (x : Operand) (hgd : o.guard = none) (ho : o.op = .load ty x)
    (g n : Nat) (f : Nat → Int) (t : TypeId) (hx : a.eval x = .pointer (some ⟨g, 0, none⟩)) (hg : Blk w g (rowA n f) t) (d : TypeDesc)
    (hu : P.underlying ty = some d) (hd : (match d with | .struct _ | .array _ _ => true | _ => false) = true) (hi : (P.info? ty).map (·.size) = some n)
    (h : wpList P ops Q rest (a.put o.dst (.agg (rowA n f))) w) : wpList P ops Q (o :: rest) a w :=
  wpList_load_row hgd ty x ho g hx t _ (0, 0) d hg hu hd (by rw [rowA_size]; exact hi) h
theorem row_wp {P : Program} {o : Oper} {a : Act} {w : World} {K : Act → World → Prop} {Q : Exit → Act → World → Prop} (ty : TypeId) (x : Operand) (ho : o.op = .load ty x)
    (g n : Nat) (f : Nat → Int) (t : TypeId) (hx : a.eval x = .pointer (some ⟨g, 0, none⟩)) (hg : Blk w g (rowA n f) t) (d : TypeDesc)
    (hu : P.underlying ty = some d) (hd : (match d with | .struct _ | .array _ _ => true | _ => false) = true) (hi : (P.info? ty).map (·.size) = some n)
    (h : K (a.put o.dst (.agg (rowA n f))) w) : o.wp P a w K Q :=
  wp_load_row ty x ho g hx t _ (0, 0) d hg hu hd (by rw [rowA_size]; exact hi) h
theorem row_store {P : Program} {ops : Array Oper} {rest : List Oper} {o : Oper} {a : Act} {w : World} {Q : Exit → Act → World → Prop} (ty : TypeId) (x y : Operand) (hgd : o.guard = none) (ho : o.op = .store ty x y)
    (g n : Nat) (f f' : Nat → Int) (t : TypeId) (hx : a.eval x = .pointer (some ⟨g, 0, none⟩)) (hy : a.eval y = .agg (rowA n f)) (hg : Blk w g (rowA n f') t) (hi : (P.info? ty).map (·.size) = some n)
    (h : wpList P ops Q rest (a.put o.dst undef) (w.setRow g (rowA n f))) : wpList P ops Q (o :: rest) a w :=
  wpList_store_row hgd ty x y ho g _ hx hy t _ hg (by rw [rowA_size]; exact hi) (by rw [rowA_size, rowA_size]) (rowA_one n f) h
theorem results_row {P : Program} {fn : Func} {p : Tmp} {ty : TypeId} (h : fn.results = #[.cell p ty]) (tmps : Array Value) (w : World) (g n : Nat) (f : Nat → Int) (t : TypeId) (d : TypeDesc)
    (hp : tmps.getD p undef = .pointer (some ⟨g, 0, none⟩)) (hg : Blk w g (rowA n f) t)
    (hu : P.underlying ty = some d) (hd : (match d with | .struct _ | .array _ _ => true | _ => false) = true) (hi : (P.info? ty).map (·.size) = some n) :
    (results fn tmps).run P w = .ok (.agg (rowA n f)) w :=
  results_cell_row h tmps w g t _ (0, 0) d hp hg hu hd (by rw [rowA_size]; exact hi)
/-- A part of a row, read. -/
theorem mid_load {P : Program} {ops : Array Oper} {rest : List Oper} {o : Oper} {a : Act} {w : World} {Q : Exit → Act → World → Prop} (ty : TypeId) (x : Operand) (hgd : o.guard = none) (ho : o.op = .load ty x)
    (g off n : Nat) (f : Nat → Int) (hx : a.eval x = .pointer (some ⟨g, off, none⟩)) (hg : Ints w g off n f) (d : TypeDesc)
    (hu : P.underlying ty = some d) (hd : d.isRow = true) (hi : (P.info? ty).map (·.size) = some n)
    (h : wpList P ops Q rest (a.put o.dst (.agg (rowA n f))) w) : wpList P ops Q (o :: rest) a w := by
  refine wpList_load_mid hgd ty x ho g off hx (rowA n f).toList d (fun j v hv => ?_) hu hd (by rw [Array.length_toList, rowA_size]; exact hi) (by simpa using h)
  by_cases hj : j < n
  · have := rowA_get f hj
    rw [Array.getElem?_toList, this] at hv
    injection hv with hv
    rw [← hv]; exact hg.at_ j hj
  · rw [Array.getElem?_toList, rowA_none f (by omega)] at hv; cases hv
/-- A number of a row. -/
theorem run_index_row {P : Program} {t e : TypeId} {n j : Nat} {k : IntKind} (hu : P.underlying t = some (.array n e)) (he : P.underlying e = some (.int .i64)) (hi : (P.info? e).map (·.size) = some 1) (f : Nat → Int) (hj : j < n) (w : World) :
    (Instr.index t (.agg (rowA n f)) (.int k (j : Int))).run P w = .ok (.int .i64 (f j)) w := by
  cases hq : P.info? e with
  | none => simp [hq] at hi
  | some i =>
    have hs : i.size = 1 := by simpa [hq] using hi
    have h1 : (0 : Int) ≤ (j : Int) ∧ (j : Int) < (n : Int) := ⟨by omega, by omega⟩
    have hagg : ∀ w, (isAgg e).run P w = .ok false w := fun w => by
      unfold isAgg
      rw [Sem.run_bind, run_underlying he w]
      rfl
    have hg := rowA_get f hj
    simp [Instr.index, asIntOf, run_underlying hu, h1, sizeOf, typeInfo, hq, hs, part, hagg, hg]
    intro h; omega
theorem index_row {P : Program} {ops : Array Oper} {rest : List Oper} {o : Oper} {a : Act} {w : World} {Q : Exit → Act → World → Prop} (t : TypeId) (x y : Operand) (hgd : o.guard = none) (ho : o.op = .index t x y)
    {e : TypeId} {n j : Nat} {k : IntKind} (f : Nat → Int) (hx : a.eval x = .agg (rowA n f)) (hy : a.eval y = .int k (j : Int)) (hu : P.underlying t = some (.array n e)) (he : P.underlying e = some (.int .i64)) (hi : (P.info? e).map (·.size) = some 1) (hj : j < n)
    (h : wpList P ops Q rest (a.put o.dst (.int .i64 (f j))) w) : wpList P ops Q (o :: rest) a w := by
  refine wpList_plain hgd fun K hK => ?_
  unfold Oper.wp execOp
  simp only [ho, hx, hy, Sem.run_bind, Sem.run_pure, Result.andThen_ok, run_index_row hu he hi f hj w]
  exact hK _ _ h
end Go.Proofs.Ytdleeeahonfnkaa

/- TriN -/
namespace Go.Proofs.Ytdleeeahonfnkaa
open Go.RowKit

def mulv (a b : Int) : Int := satv (rnd (satv a * satv b) 30)
def mulh (a b : Int) : Bool := sath a || sath b || sath (rnd (satv a * satv b) 30)
/-- Where the number of the row i and the column j stands. -/
def plc (i j : Int) : Int := j * (j - 1) / 2 + i
def inN (i : Int) : Bool := decide (0 ≤ i) && decide (i < 24)
def aboveB (i j : Int) : Bool := inN i && inN j && decide (i < j)
/-- A number of U. -/
def uF (f : Nat → Int) (i j : Int) : Int := bif aboveB i j then f (plc i j).toNat else bif decide (i = j) && inN i then 1073741824 else 0
theorem inN_iff (i : Int) : inN i = true ↔ 0 ≤ i ∧ i < 24 := by simp [inN]
theorem inN_no (i : Int) : inN i = false ↔ i < 0 ∨ 23 < i := by
  rw [← Bool.not_eq_true, inN_iff]; omega
theorem aboveB_iff (i j : Int) : aboveB i j = true ↔ 0 ≤ i ∧ i < j ∧ j < 24 := by
  simp only [aboveB, Bool.and_eq_true, inN_iff, decide_eq_true_eq]; omega
theorem aboveB_no (i j : Int) : aboveB i j = false ↔ i < 0 ∨ j ≤ i ∨ 23 < j := by
  rw [← Bool.not_eq_true, aboveB_iff]; omega
theorem plc_bd {i j : Int} (h0 : 0 ≤ i) (h1 : i < j) (h2 : j < 24) : 0 ≤ j * (j - 1) ∧ j * (j - 1) ≤ 506 ∧ 0 ≤ plc i j ∧ plc i j < 276 := by
  unfold plc
  have hj : j = 1 ∨ j = 2 ∨ j = 3 ∨ j = 4 ∨ j = 5 ∨ j = 6 ∨ j = 7 ∨ j = 8 ∨ j = 9 ∨ j = 10 ∨ j = 11 ∨ j = 12 ∨ j = 13 ∨ j = 14 ∨ j = 15 ∨ j = 16 ∨ j = 17 ∨ j = 18 ∨ j = 19 ∨ j = 20 ∨ j = 21 ∨ j = 22 ∨ j = 23 := by omega
  rcases hj with rfl | rfl | rfl | rfl | rfl | rfl | rfl | rfl | rfl | rfl | rfl | rfl | rfl | rfl | rfl | rfl | rfl | rfl | rfl | rfl | rfl | rfl | rfl <;> omega
theorem half_of {b : Int} (h0 : 0 ≤ b) (h1 : b < 24) : 2 * (b * (b - 1) / 2) = b * (b - 1) := by
  have hj : b = 0 ∨ b = 1 ∨ b = 2 ∨ b = 3 ∨ b = 4 ∨ b = 5 ∨ b = 6 ∨ b = 7 ∨ b = 8 ∨ b = 9 ∨ b = 10 ∨ b = 11 ∨ b = 12 ∨ b = 13 ∨ b = 14 ∨ b = 15 ∨ b = 16 ∨ b = 17 ∨ b = 18 ∨ b = 19 ∨ b = 20 ∨ b = 21 ∨ b = 22 ∨ b = 23 := by omega
  rcases hj with rfl | rfl | rfl | rfl | rfl | rfl | rfl | rfl | rfl | rfl | rfl | rfl | rfl | rfl | rfl | rfl | rfl | rfl | rfl | rfl | rfl | rfl | rfl | rfl <;> decide
theorem plc_inj {i j x y : Int} (h0 : 0 ≤ i) (h1 : i < j) (h2 : j < 24) (k0 : 0 ≤ x) (k1 : x < y) (k2 : y < 24) (h : plc i j = plc x y) : i = x ∧ j = y := by
  have hs : ∀ {a b c d : Int}, 0 ≤ a → a < b → b < 24 → 0 ≤ c → c < d → d < 24 → b < d → plc a b < plc c d := by
    intro a b c d a0 a1 a2 c0 c1 c2 hbd
    have e1 := half_of (show 0 ≤ b by omega) (show b < 24 by omega)
    have e2 := half_of (show 0 ≤ d by omega) (show d < 24 by omega)
    have e3 : (b + 1) * b ≤ d * (d - 1) := Int.mul_le_mul (by omega) (by omega) (by omega) (by omega)
    have e4 : (b + 1) * b = b * (b - 1) + 2 * b := by grind
    unfold plc
    omega
  rcases Int.lt_trichotomy j y with hjy | hjy | hjy
  · have := hs h0 h1 h2 k0 k1 k2 hjy; omega
  · subst hjy
    unfold plc at h
    omega
  · have := hs k0 k1 k2 h0 h1 h2 hjy; omega
/-- A number of the covariance: what is multiplied. -/
def atX (f : Nat → Int) (i : Int) (m : Nat) : Nat → Int := fun t => uF f i ((m + t : Nat) : Int)
def atY (f : Nat → Int) (j : Int) (m : Nat) : Nat → Int := fun t => mulv (uF f j ((m + t : Nat) : Int)) (f (276 + (m + t)))
def anyY (f : Nat → Int) (j : Int) (m : Nat) : Nat → Bool
  | 0 => false
  | k + 1 => anyY f j m k || mulh (uF f j ((m + k : Nat) : Int)) (f (276 + (m + k)))
def atS (f : Nat → Int) (i j : Int) : Int := sumP (atX f i (max i j).toNat) (atY f j (max i j).toNat) (24 - (max i j).toNat)
def atV (f : Nat → Int) (i j : Int) : Int := bif inN i && inN j then satv (rnd (atS f i j) 30) else 0
def atH (f : Nat → Int) (i j : Int) : Bool := inN i && inN j && (anyY f j (max i j).toNat (24 - (max i j).toNat) || anyP (atX f i (max i j).toNat) (atY f j (max i j).toNat) (24 - (max i j).toNat) || sath (rnd (atS f i j) 30))
theorem uF_bd {f : Nat → Int} (h : ∀ k, -9223372036854775808 ≤ f k ∧ f k ≤ 9223372036854775807) (i j : Int) : -9223372036854775808 ≤ uF f i j ∧ uF f i j ≤ 9223372036854775807 := by
  unfold uF
  cases aboveB i j
  · cases decide (i = j) && inN i
    · rw [cond_false, cond_false]; omega
    · rw [cond_false, cond_true]; omega
  · exact h _
/-- What is kept within its bounds. -/
def condF (f : Nat → Int) : Nat → Int := fun k => if k < 276 then satv (f k) else clampv (f k) 1 72057594037927936
def hitD (f : Nat → Int) : Nat → Bool
  | 0 => false
  | k + 1 => hitD f k || clamph (f (276 + k)) 1 72057594037927936
def hitU (f : Nat → Int) : Nat → Bool
  | 0 => false
  | k + 1 => hitU f k || sath (f k)
def condH (f : Nat → Int) : Bool := hitD f 24 || hitU f 276
/-- The first t numbers of D kept; then all of D and the first t of U. -/
def partD (f : Nat → Int) (t : Nat) : Nat → Int := fun k => if 276 ≤ k ∧ k < 276 + t then clampv (f k) 1 72057594037927936 else f k
def partU (f : Nat → Int) (t : Nat) : Nat → Int := fun k => if 276 ≤ k then clampv (f k) 1 72057594037927936 else if k < t then satv (f k) else f k
theorem partD_zero (f : Nat → Int) : partD f 0 = f := by
  funext k; unfold partD; rw [if_neg (by omega)]
theorem partD_next (f : Nat → Int) (t : Nat) : upd (partD f t) (276 + t) (clampv (f (276 + t)) 1 72057594037927936) = partD f (t + 1) := by
  funext k; unfold upd partD
  by_cases h : k = 276 + t
  · subst h; rw [if_pos rfl, if_pos (by omega)]
  · rw [if_neg h]
    by_cases h2 : 276 ≤ k ∧ k < 276 + t
    · rw [if_pos h2, if_pos (by omega)]
    · rw [if_neg h2, if_neg (by omega)]
theorem partD_self (f : Nat → Int) (t : Nat) : partD f t (276 + t) = f (276 + t) := by unfold partD; rw [if_neg (by omega)]
theorem partU_zero {f : Nat → Int} {k : Nat} (hk : k < 300) : partD f 24 k = partU f 0 k := by
  unfold partD partU
  by_cases h : 276 ≤ k
  · rw [if_pos (by omega), if_pos h]
  · rw [if_neg (by omega), if_neg h, if_neg (by omega)]
theorem partU_next (f : Nat → Int) {t : Nat} (ht : t < 276) : upd (partU f t) t (satv (f t)) = partU f (t + 1) := by
  funext k; unfold upd partU
  by_cases h : k = t
  · subst h; rw [if_pos rfl, if_neg (by omega), if_pos (by omega)]
  · rw [if_neg h]
    by_cases h2 : 276 ≤ k
    · rw [if_pos h2, if_pos h2]
    · rw [if_neg h2, if_neg h2]
      by_cases h3 : k < t
      · rw [if_pos h3, if_pos (by omega)]
      · rw [if_neg h3, if_neg (by omega)]
theorem partU_self (f : Nat → Int) {t : Nat} (ht : t < 276) : partU f t t = f t := by unfold partU; rw [if_neg (by omega), if_neg (by omega)]
theorem partU_low (f : Nat → Int) {t : Nat} (ht : t < 276) : partD f 24 t = f t := by unfold partD; rw [if_neg (by omega)]
theorem partU_all {f : Nat → Int} (k : Nat) : partU f 276 k = condF f k := by
  unfold partU condF
  by_cases h : 276 ≤ k
  · rw [if_pos h, if_neg (by omega)]
  · rw [if_neg h, if_pos (by omega), if_pos (by omega)]
/-- What is made of variances: the first n of l, at most 24. -/
def newF (l : Nat → Int) (n : Nat) : Nat → Int := fun k => if k < 276 then 0 else if k - 276 < n then clampv (l (k - 276)) 1 72057594037927936 else 1
def newH (l : Nat → Int) (n : Nat) : Nat → Bool
  | 0 => false
  | k + 1 => newH l n k || (decide (k < n) && clamph (l k) 1 72057594037927936)
/-- The greatest D. -/
def mostF (f : Nat → Int) : Nat → Int
  | 0 => f 276
  | k + 1 => max (mostF f k) (f (276 + (k + 1)))
def goodB (f : Nat → Int) : Bool := !condH f
/-- The variances. -/
def diagF (f : Nat → Int) (t : Nat) : Nat → Int := fun k => if k < t then atV f k k else 0
def diagH (f : Nat → Int) : Nat → Bool
  | 0 => false
  | k + 1 => diagH f k || atH f k k
theorem diagF_zero (f : Nat → Int) : diagF f 0 = fun _ => 0 := by funext k; unfold diagF; rw [if_neg (by omega)]
theorem diagF_next (f : Nat → Int) (t : Nat) : upd (diagF f t) t (atV f t t) = diagF f (t + 1) := by
  funext k; unfold upd diagF
  by_cases h : k = t
  · subst h; rw [if_pos rfl, if_pos (by omega)]
  · rw [if_neg h]
    by_cases h2 : k < t
    · rw [if_pos h2, if_pos (by omega)]
    · rw [if_neg h2, if_neg (by omega)]
theorem atV_bd (f : Nat → Int) (i j : Int) : -1152921504606846976 ≤ atV f i j ∧ atV f i j ≤ 1152921504606846976 := by
  unfold atV
  cases inN i && inN j
  · rw [cond_false]; omega
  · rw [cond_true]; exact ⟨satv_lo _, satv_hi _⟩
end Go.Proofs.Ytdleeeahonfnkaa

/- ThoN -/
namespace Go.Proofs.Ytdleeeahonfnkaa
open Go.RowKit

/-- Is any of the first n so? -/
def anyN (f : Nat → Bool) : Nat → Bool
  | 0 => false
  | k + 1 => anyN f k || f k
theorem anyN_iff {f : Nat → Bool} {n : Nat} : anyN f n = true ↔ ∃ k, k < n ∧ f k = true := by
  induction n with
  | zero => simp [anyN]
  | succ n ih =>
    rw [anyN, Bool.or_eq_true, ih]
    constructor
    · rintro (⟨k, h1, h2⟩ | h)
      · exact ⟨k, by omega, h2⟩
      · exact ⟨n, by omega, h⟩
    · rintro ⟨k, h1, h2⟩
      by_cases h : k = n
      · subst h; exact .inr h2
      · exact .inl ⟨k, by omega, h2⟩
theorem anyN_congr {f g : Nat → Bool} {n : Nat} (h : ∀ k, k < n → f k = g k) : anyN f n = anyN g n := by
  induction n with
  | zero => rfl
  | succ n ih => rw [anyN, anyN, ih (fun k hk => h k (by omega)), h n (by omega)]
def subv (a b : Int) : Int := satv (satv a - satv b)
def subh (a b : Int) : Bool := sath a || sath b || sath (satv a - satv b)
def dotv (xs ys : Nat → Int) (n : Nat) : Int := satv (rnd (sumP xs ys n) 30)
def doth (xs ys : Nat → Int) (n : Nat) : Bool := anyP xs ys n || sath (rnd (sumP xs ys n) 30)
/-- A quotient, of 30 bits more. -/
def quov (a b : Int) : Int := divv (satv a * 2 ^ 30) (satv b)
def quoh (a b : Int) : Bool := sath a || sath b || divh (satv a * 2 ^ 30) (satv b)
/-- The rows that are made orthogonal: f is the matrix (576 numbers), p the factors (both within their bounds); n: how much of a column is looked at. -/
def rowW (p g : Nat → Int) (n : Nat → Nat) : Nat → Int := fun q =>
  if q % 48 < 24 then dotv (fun t => g (24 * (q / 48) + t)) (fun t => uF p (t : Int) ((q % 48 : Nat) : Int)) (n (q % 48)) else if q % 48 = 24 + q / 48 then 1073741824 else 0
/-- What stands behind the numbers of a row. -/
def wei (p e : Nat → Int) : Nat → Int := fun k => if k < 24 then p (276 + k) else clampv (e (k - 24)) 0 72057594037927936
def rowJ (W : Nat → Int) (j : Nat) : Nat → Int := fun k => W (48 * j + k)
def yF (W e : Nat → Int) (j : Nat) : Nat → Int := fun k => mulv (W (48 * j + k)) (e k)
def yH (W e : Nat → Int) (j : Nat) : Nat → Bool := fun k => mulh (W (48 * j + k)) (e k)
def dF (W e : Nat → Int) (j : Nat) : Int := clampv (dotv (rowJ W j) (yF W e j) 48) 1 72057594037927936
def dH (W e : Nat → Int) (j : Nat) : Bool := anyN (yH W e j) 48 || doth (rowJ W j) (yF W e j) 48 || clamph (dotv (rowJ W j) (yF W e j) 48) 1 72057594037927936
def uS (W e : Nat → Int) (j i : Nat) : Int := quov (dotv (rowJ W i) (yF W e j) 48) (dF W e j)
def uSH (W e : Nat → Int) (j i : Nat) : Bool := doth (rowJ W i) (yF W e j) 48 || quoh (dotv (rowJ W i) (yF W e j) 48) (dF W e j)
/-- u times the row j taken off the row i. -/
def takF (W : Nat → Int) (j i : Nat) (u : Int) (t : Nat) : Nat → Int := fun q => if 48 * i ≤ q ∧ q < 48 * i + t then subv (W q) (mulv u (W (48 * j + (q - 48 * i)))) else W q
def takH (W : Nat → Int) (j i : Nat) (u : Int) : Nat → Bool := fun k => mulh u (W (48 * j + k)) || subh (W (48 * i + k)) (mulv u (W (48 * j + k)))
/-- The rows with the first t below j done. -/
def nexW (W e : Nat → Int) (j : Nat) : Nat → Nat → Int
  | 0 => W
  | t + 1 => takF (nexW W e j t) j t (uS W e j t) 48
def nexH (W e : Nat → Int) (j : Nat) : Nat → Bool
  | 0 => false
  | t + 1 => nexH W e j t || (uSH W e j t || anyN (takH (nexW W e j t) j t (uS W e j t)) 48)
/-- The rows after n rounds; the answer. -/
def stW (W e : Nat → Int) : Nat → Nat → Int
  | 0 => W
  | n + 1 => nexW (stW W e n) e (23 - n) (23 - n)
def outI (W e o : Nat → Int) (j : Nat) : Nat → Nat → Int
  | 0 => upd o (276 + j) (dF W e j)
  | t + 1 => upd (outI W e o j t) (plc t j).toNat (uS W e j t)
def stO (W e : Nat → Int) : Nat → Nat → Int
  | 0 => fun _ => 0
  | n + 1 => outI (stW W e n) e (stO W e n) (23 - n) (23 - n)
def stH (W e : Nat → Int) : Nat → Bool
  | 0 => false
  | n + 1 => stH W e n || (dH (stW W e n) e (23 - n) || nexH (stW W e n) e (23 - n) (23 - n))
def sat576 (g : Nat → Int) : Nat → Int := fun k => satv (g k)
/-- The step: what comes out, and whether something was clamped. -/
def stepF (p g q : Nat → Int) : Nat → Int := stO (rowW (condF p) (sat576 g) (fun k => k + 1)) (wei (condF p) q) 24
def rowsH (p g : Nat → Int) (n : Nat → Nat) : Nat → Bool := fun q => doth (fun t => g (24 * (q / 48) + t)) (fun t => uF p (t : Int) ((q % 48 : Nat) : Int)) (n (q % 48))
def stepH (p g q : Nat → Int) : Bool := condH p || anyN (fun k => sath (g k)) 576 || anyN (fun k => anyN (fun i => rowsH (condF p) (sat576 g) (fun k => k + 1) (48 * i + k)) 24) 24 || anyN (fun k => clamph (q k) 0 72057594037927936) 24 ||
  stH (rowW (condF p) (sat576 g) (fun k => k + 1)) (wei (condF p) q) 24
theorem nexW_other {W e : Nat → Int} {j t q : Nat} (h : 48 * t ≤ q) : nexW W e j t q = W q := by
  induction t with
  | zero => rfl
  | succ t ih =>
    rw [nexW, takF, if_neg (by omega)]
    exact ih (by omega)
theorem rowJ_nex (W e : Nat → Int) {j t i : Nat} (h : t ≤ i) : ∀ k, rowJ (nexW W e j t) i k = rowJ W i k := fun k => nexW_other (by omega)
theorem takF_zero (W : Nat → Int) (j i : Nat) (u : Int) : takF W j i u 0 = W := by funext q; unfold takF; rw [if_neg (by omega)]
theorem takF_self (W : Nat → Int) (j i : Nat) (u : Int) (t : Nat) : takF W j i u t (48 * i + t) = W (48 * i + t) := by unfold takF; rw [if_neg (by omega)]
theorem takF_row (W : Nat → Int) {j i : Nat} (h : i < j) (u : Int) {t k : Nat} (ht : t ≤ 48) : takF W j i u t (48 * j + k) = W (48 * j + k) := by unfold takF; rw [if_neg (by omega)]
theorem takF_next (W : Nat → Int) (j i : Nat) (u : Int) (t : Nat) : upd (takF W j i u t) (48 * i + t) (subv (W (48 * i + t)) (mulv u (W (48 * j + t)))) = takF W j i u (t + 1) := by
  funext q; unfold upd takF
  by_cases h : q = 48 * i + t
  · subst h; rw [if_pos rfl, if_pos (by omega), show 48 * i + t - 48 * i = t by omega]
  · rw [if_neg h]
    by_cases h2 : 48 * i ≤ q ∧ q < 48 * i + t
    · rw [if_pos h2, if_pos (by omega)]
    · rw [if_neg h2, if_neg (by omega)]
end Go.Proofs.Ytdleeeahonfnkaa

/- ThoL -/
namespace Go.Proofs.Ytdleeeahonfnkaa
open Go.RowKit

/-- The same, quick to reckon: by natural numbers, noughts first. -/
def satZ : Int → Int
  | .ofNat n => bif Nat.ble n 1152921504606846976 then .ofNat n else .ofNat 1152921504606846976
  | .negSucc n => bif Nat.ble n 1152921504606846975 then .negSucc n else .negSucc 1152921504606846975
theorem satZ_eq (a : Int) : satZ a = satv a := by
  cases a with
  | ofNat n =>
    unfold satZ satv
    dsimp only
    cases h : Nat.ble n 1152921504606846976
    · have h := Nat.not_le_of_not_ble_eq_true (by rw [h]; decide)
      rw [cond_false, if_neg (by simp <;> omega), if_pos (by simp <;> omega)]; rfl
    · have h := Nat.le_of_ble_eq_true h
      rw [cond_true, if_neg (by simp <;> omega), if_neg (by simp <;> omega)]
  | negSucc n =>
    unfold satZ satv
    dsimp only
    cases h : Nat.ble n 1152921504606846975
    · have h := Nat.not_le_of_not_ble_eq_true (by rw [h]; decide)
      rw [cond_false, if_pos (by omega)]; rfl
    · have h := Nat.le_of_ble_eq_true h
      rw [cond_true, if_neg (by omega), if_neg (by omega)]
def sathZ : Int → Bool
  | .ofNat n => !Nat.ble n 1152921504606846976
  | .negSucc n => !Nat.ble n 1152921504606846975
theorem sathZ_eq (a : Int) : sathZ a = sath a := by
  cases a with
  | ofNat n =>
    unfold sathZ sath
    dsimp only
    cases h : Nat.ble n 1152921504606846976
    · have h := Nat.not_le_of_not_ble_eq_true (by rw [h]; decide)
      rw [decide_eq_false (show ¬ (Int.ofNat n < -1152921504606846976) by simp <;> omega), decide_eq_true (show (1152921504606846976 < Int.ofNat n) by simp <;> omega)]; rfl
    · have h := Nat.le_of_ble_eq_true h
      rw [decide_eq_false (show ¬ (Int.ofNat n < -1152921504606846976) by simp <;> omega), decide_eq_false (show ¬ (1152921504606846976 < Int.ofNat n) by simp <;> omega)]; rfl
  | negSucc n =>
    unfold sathZ sath
    dsimp only
    cases h : Nat.ble n 1152921504606846975
    · have h := Nat.not_le_of_not_ble_eq_true (by rw [h]; decide)
      rw [decide_eq_true (show (Int.negSucc n < -1152921504606846976) by omega)]; rfl
    · have h := Nat.le_of_ble_eq_true h
      rw [decide_eq_false (show ¬ (Int.negSucc n < -1152921504606846976) by omega), decide_eq_false (show ¬ (1152921504606846976 < Int.negSucc n) by omega)]; rfl
def rndZ : Int → Int
  | .ofNat n => .ofNat ((n + 536870912) / 1073741824)
  | .negSucc n => Int.negOfNat ((n + 1 + 536870912) / 1073741824)
theorem half30 : halfOf 30 = 536870912 := by decide
theorem pow30 : 2 ^ 30 = 1073741824 := by decide
theorem rq30 (m : Nat) : rq m 30 = (m + 536870912) / 1073741824 := by unfold rq; rw [half30, pow30]
theorem sign_no (m : Nat) : withSign false m = (m : Int) := by unfold withSign; rw [if_neg (by decide)]
theorem sign_yes (m : Nat) : withSign true m = -(m : Int) := by unfold withSign; rw [if_pos rfl]
theorem rndZ_eq (v : Int) : rndZ v = rnd v 30 := by
  unfold rnd
  rw [rq30]
  cases v with
  | ofNat n =>
    rw [rndZ, decide_eq_false (show ¬ (Int.ofNat n < 0) by simp), sign_no, Int.natAbs_ofNat', Int.ofNat_eq_natCast]
  | negSucc n =>
    rw [rndZ, decide_eq_true (show Int.negSucc n < 0 from Int.negSucc_lt_zero n), sign_yes, Int.negOfNat_eq, Int.natAbs_negSucc, Int.ofNat_eq_natCast]
def zeroI : Int → Bool
  | .ofNat n => Nat.beq n 0
  | .negSucc _ => false
theorem zeroI_eq {a : Int} (h : zeroI a = true) : a = 0 := by
  cases a with
  | ofNat n => have := Nat.eq_of_beq_eq_true h; subst this; rfl
  | negSucc n => cases h
theorem satv_zero : satv 0 = 0 := by decide
theorem sath_zero : sath 0 = false := by decide
theorem rnd_zero : rnd 0 30 = 0 := by decide
def mulZ (a b : Int) : Int := bif zeroI a then 0 else bif zeroI b then 0 else satZ (rndZ (satZ a * satZ b))
theorem mulZ_eq (a b : Int) : mulZ a b = mulv a b := by
  unfold mulZ mulv
  rw [satZ_eq, satZ_eq, satZ_eq, rndZ_eq]
  cases h : zeroI a
  · rw [cond_false]
    cases h2 : zeroI b
    · rfl
    · rw [zeroI_eq h2, satv_zero, Int.mul_zero, rnd_zero, satv_zero]; rfl
  · rw [zeroI_eq h, satv_zero, Int.zero_mul, rnd_zero, satv_zero]; rfl
def mulhZ (a b : Int) : Bool := bif zeroI a then sathZ b else bif zeroI b then sathZ a else sathZ a || sathZ b || sathZ (rndZ (satZ a * satZ b))
theorem mulhZ_eq (a b : Int) : mulhZ a b = mulh a b := by
  unfold mulhZ mulh
  rw [satZ_eq, satZ_eq, sathZ_eq, sathZ_eq, sathZ_eq, rndZ_eq]
  cases h : zeroI a
  · rw [cond_false]
    cases h2 : zeroI b
    · rfl
    · rw [zeroI_eq h2, satv_zero, Int.mul_zero, rnd_zero, sath_zero, Bool.or_false, Bool.or_false]; rfl
  · rw [zeroI_eq h, satv_zero, Int.zero_mul, rnd_zero, sath_zero, Bool.false_or, Bool.or_false]; rfl
def subZ (a b : Int) : Int := bif zeroI b then satZ a else satZ (satZ a - satZ b)
theorem subZ_eq (a b : Int) : subZ a b = subv a b := by
  unfold subZ subv
  rw [satZ_eq, satZ_eq, satZ_eq]
  cases h : zeroI b
  · rfl
  · rw [zeroI_eq h, satv_zero, Int.sub_zero, (satv_in (satv_lo a) (satv_hi a)).1]; rfl
def subhZ (a b : Int) : Bool := bif zeroI b then sathZ a else sathZ a || sathZ b || sathZ (satZ a - satZ b)
theorem subhZ_eq (a b : Int) : subhZ a b = subh a b := by
  unfold subhZ subh
  rw [satZ_eq, satZ_eq, sathZ_eq, sathZ_eq, sathZ_eq]
  cases h : zeroI b
  · rfl
  · rw [zeroI_eq h, satv_zero, Int.sub_zero, (satv_in (satv_lo a) (satv_hi a)).2, sath_zero, Bool.or_false, Bool.or_false]; rfl
def quoZ (a b : Int) : Int := bif zeroI a && !zeroI (satZ b) then 0 else quov a b
theorem divZ_zero {d : Int} (hd : d ≠ 0) : divZ 0 d = 0 := by
  rw [divZ_sign, show (0 : Int).natAbs = 0 from rfl, dq_zero _ (by omega)]
  unfold withSign
  split <;> rfl
theorem quoZ_eq (a b : Int) : quoZ a b = quov a b := by
  unfold quoZ
  rw [satZ_eq]
  cases h : zeroI a
  · rfl
  · cases h2 : zeroI (satv b)
    · rw [zeroI_eq h]
      have hb : satv b ≠ 0 := fun e => by rw [e] at h2; cases h2
      unfold quov divv
      rw [satv_zero, Int.zero_mul, if_neg hb, divZ_zero hb, satv_zero]; rfl
    · rfl
def quohZ (a b : Int) : Bool := bif zeroI a && !zeroI (satZ b) then sathZ b else quoh a b
theorem quohZ_eq (a b : Int) : quohZ a b = quoh a b := by
  unfold quohZ
  rw [satZ_eq, sathZ_eq]
  cases h : zeroI a
  · rfl
  · cases h2 : zeroI (satv b)
    · rw [zeroI_eq h]
      have hb : satv b ≠ 0 := fun e => by rw [e] at h2; cases h2
      unfold quoh divh
      rw [satv_zero, Int.zero_mul, if_neg hb, divZ_zero hb, sath_zero, Bool.false_or, Bool.or_false]; rfl
    · rfl
/-- z is reckoned first. -/
def forceI {α : Type} (z : Int) (f : Int → α) : α := match z with
  | .ofNat 0 => f 0
  | .ofNat (m + 1) => f (.ofNat (m + 1))
  | .negSucc 0 => f (.negSucc 0)
  | .negSucc (m + 1) => f (.negSucc (m + 1))
theorem forceI_eq {α : Type} (z : Int) (f : Int → α) : forceI z f = f z := by
  unfold forceI
  split <;> rfl
def forceB {α : Type} (b : Bool) (f : Bool → α) : α := match b with
  | true => f true
  | false => f false
theorem forceB_eq {α : Type} (b : Bool) (f : Bool → α) : forceB b f = f b := by cases b <;> rfl
def forceL {α : Type} : List Int → (List Int → α) → α
  | [], f => f []
  | a :: l, f => forceI a fun z => forceL l fun m => f (z :: m)
theorem forceL_eq {α : Type} : ∀ (l : List Int) (f : List Int → α), forceL l f = f l
  | [], _ => rfl
  | a :: l, f => by rw [forceL, forceI_eq, forceL_eq l]
def forceLL {α : Type} : List (List Int) → (List (List Int) → α) → α
  | [], f => f []
  | a :: l, f => forceL a fun z => forceLL l fun m => f (z :: m)
theorem forceLL_eq {α : Type} : ∀ (l : List (List Int)) (f : List (List Int) → α), forceLL l f = f l
  | [], _ => rfl
  | a :: l, f => by rw [forceLL, forceL_eq, forceLL_eq l]
def zip2F (f : Int → Int → Int) : List Int → List Int → List Int
  | a :: l, b :: m => forceI (f a b) fun z => z :: zip2F f l m
  | _, _ => []
theorem zip2F_map {f : Int → Int → Int} {a b : Nat → Int} : ∀ l : List Nat, zip2F f (l.map a) (l.map b) = l.map fun k => f (a k) (b k)
  | [] => rfl
  | k :: l => by rw [List.map_cons, List.map_cons, zip2F, forceI_eq, zip2F_map l, List.map_cons]
def any2 (f : Int → Int → Bool) : List Int → List Int → Bool
  | a :: l, b :: m => any2 f l m || f a b
  | _, _ => false
theorem any2_map {f : Int → Int → Bool} {a b : Nat → Int} : ∀ l : List Nat, any2 f (l.map a) (l.map b) = l.any fun k => f (a k) (b k)
  | [] => rfl
  | k :: l => by rw [List.map_cons, List.map_cons, any2, any2_map l, List.any_cons, Bool.or_comm]
def dsum : List Int → List Int → Int
  | a :: l, b :: m => satv a * satv b + dsum l m
  | _, _ => 0
theorem dsum_snoc (xs ys : Nat → Int) (x : Nat) : ∀ l : List Nat, dsum ((l ++ [x]).map xs) ((l ++ [x]).map ys) = dsum (l.map xs) (l.map ys) + satv (xs x) * satv (ys x)
  | [] => by simp [dsum]
  | k :: l => by
    have := dsum_snoc xs ys x l
    simp only [List.cons_append, List.map_cons, dsum]
    rw [this]; omega
theorem dsum_range (xs ys : Nat → Int) (n : Nat) : dsum ((List.range n).map xs) ((List.range n).map ys) = sumP xs ys n := by
  induction n with
  | zero => rfl
  | succ n ih => rw [List.range_succ, dsum_snoc, ih, sumP]
theorem anyN_range (f : Nat → Bool) (n : Nat) : (List.range n).any f = anyN f n := by
  rw [Bool.eq_iff_iff, anyN_iff, List.any_eq_true]
  exact ⟨fun ⟨k, h1, h2⟩ => ⟨k, List.mem_range.1 h1, h2⟩, fun ⟨k, h1, h2⟩ => ⟨k, List.mem_range.2 h1, h2⟩⟩
theorem anyP_iff {xs ys : Nat → Int} {n : Nat} : anyP xs ys n = true ↔ ∃ k, k < n ∧ (sath (xs k) || sath (ys k)) = true := by
  rw [← anyN_iff (f := fun k => sath (xs k) || sath (ys k))]
  have e : anyP xs ys n = anyN (fun k => sath (xs k) || sath (ys k)) n := by
    induction n with
    | zero => rfl
    | succ n ih => rw [anyP, anyN, ih, Bool.or_assoc]
  rw [e]
theorem anyP_range (xs ys : Nat → Int) (n : Nat) : any2 (fun a b => sath a || sath b) ((List.range n).map xs) ((List.range n).map ys) = anyP xs ys n := by
  rw [any2_map, anyN_range, Bool.eq_iff_iff, anyN_iff, anyP_iff]
def dotl (l m : List Int) : Int := satv (rnd (dsum l m) 30)
def dothl (l m : List Int) : Bool := any2 (fun a b => sath a || sath b) l m || sath (rnd (dsum l m) 30)
theorem dotl_range (xs ys : Nat → Int) (n : Nat) : dotl ((List.range n).map xs) ((List.range n).map ys) = dotv xs ys n := by unfold dotl dotv; rw [dsum_range]
theorem dothl_range (xs ys : Nat → Int) (n : Nat) : dothl ((List.range n).map xs) ((List.range n).map ys) = doth xs ys n := by unfold dothl doth; rw [dsum_range, anyP_range]
def quosL (y : List Int) (d : Int) : List (List Int) → List Int
  | [] => []
  | r :: l => forceI (quov (dotl r y) d) fun z => z :: quosL y d l
def quosH (y : List Int) (d : Int) : List (List Int) → Bool
  | [] => false
  | r :: l => quosH y d l || (dothl r y || quoh (dotl r y) d)
def takL (rj : List Int) : List Int → List (List Int) → List (List Int)
  | u :: us, r :: l => zip2F (fun a b => subv a (mulv u b)) r rj :: takL rj us l
  | _, _ => []
def takHL (rj : List Int) : List Int → List (List Int) → Bool
  | u :: us, r :: l => takHL rj us l || any2 (fun a b => mulh u b || subh a (mulv u b)) r rj
  | _, _ => false
def revOn : List Int → List Int → List Int
  | [], m => m
  | a :: l, m => revOn l (a :: m)
theorem revOn_eq : ∀ (l m : List Int), revOn l m = l.reverse ++ m
  | [], _ => rfl
  | a :: l, m => by rw [revOn, revOn_eq l, List.reverse_cons, List.append_assoc]; rfl
/-- The rounds: the rows left, the last first; what has been made of U, of D, of the flag. -/
def stL (e : List Int) : Nat → List (List Int) → List Int → List Int → Bool → List Int × Bool
  | n + 1, rj :: rest, au, ad, h =>
    forceL (zip2F mulv rj e) fun y => forceI (clampv (dotl rj y) 1 72057594037927936) fun d => forceL (quosL y d rest) fun us =>
      forceB (h || (any2 mulh rj e || dothl rj y || clamph (dotl rj y) 1 72057594037927936 || (quosH y d rest || takHL rj us rest))) fun h' =>
        forceLL (takL rj us rest) fun rest' => stL e n rest' (revOn us au) (d :: ad) h'
  | _, _, au, ad, h => (au ++ ad, h)
def rowL (W : Nat → Int) (i : Nat) : List Int := (List.range 48).map (rowJ W i)
def rowsR (W : Nat → Int) (j : Nat) : List (List Int) := (List.range j).reverse.map (rowL W)
theorem rowsR_succ (W : Nat → Int) (j : Nat) : rowsR W (j + 1) = rowL W j :: rowsR W j := by unfold rowsR; simp [List.range_succ]
theorem quosL_map {y : List Int} {d : Int} {W : Nat → Int} : ∀ l : List Nat, quosL y d (l.map (rowL W)) = l.map fun i => quov (dotl (rowL W i) y) d
  | [] => rfl
  | i :: l => by rw [List.map_cons, quosL, forceI_eq, quosL_map l, List.map_cons]
theorem quosH_map {y : List Int} {d : Int} {W : Nat → Int} : ∀ l : List Nat, quosH y d (l.map (rowL W)) = l.any fun i => dothl (rowL W i) y || quoh (dotl (rowL W i) y) d
  | [] => rfl
  | i :: l => by rw [List.map_cons, quosH, quosH_map l, List.any_cons, Bool.or_comm]
theorem takL_map {rj : List Int} {W : Nat → Int} {u : Nat → Int} : ∀ l : List Nat, takL rj (l.map u) (l.map (rowL W)) = l.map fun i => zip2F (fun a b => subv a (mulv (u i) b)) (rowL W i) rj
  | [] => rfl
  | i :: l => by rw [List.map_cons, List.map_cons, takL, takL_map l, List.map_cons]
theorem takHL_map {rj : List Int} {W : Nat → Int} {u : Nat → Int} : ∀ l : List Nat, takHL rj (l.map u) (l.map (rowL W)) = l.any fun i => any2 (fun a b => mulh (u i) b || subh a (mulv (u i) b)) (rowL W i) rj
  | [] => rfl
  | i :: l => by rw [List.map_cons, List.map_cons, takHL, takHL_map l, List.any_cons, Bool.or_comm]
/-- A row below j when its turn has come. -/
theorem nexW_at {W e : Nat → Int} {j i k : Nat} (hk : k < 48) (hij : i < j) : ∀ {t : Nat}, i < t → t ≤ j → nexW W e j t (48 * i + k) = subv (W (48 * i + k)) (mulv (uS W e j i) (W (48 * j + k)))
  | t + 1, h1, h2 => by
    rw [nexW, takF]
    by_cases h : i = t
    · subst h
      rw [if_pos (by omega), show 48 * j + (48 * i + k - 48 * i) = 48 * j + k by omega, nexW_other (by omega), nexW_other (by omega)]
    · rw [if_neg (by omega)]
      exact nexW_at hk hij (by omega) (by omega)
theorem any_congr {f g : Nat → Bool} {l : List Nat} (h : ∀ k ∈ l, f k = g k) : l.any f = l.any g := by
  induction l with
  | nil => rfl
  | cons a l ih => rw [List.any_cons, List.any_cons, h a (List.mem_cons_self ..), ih fun k hk => h k (List.mem_cons_of_mem _ hk)]
theorem any_rev (f : Nat → Bool) (n : Nat) : (List.range n).reverse.any f = anyN f n := by rw [List.any_reverse, anyN_range]
theorem nexH_any (W e : Nat → Int) {j : Nat} : ∀ {t : Nat}, t ≤ j → nexH W e j t = (anyN (uSH W e j) t || anyN (fun i => anyN (takH W j i (uS W e j i)) 48) t)
  | 0, _ => rfl
  | t + 1, h => by
    rw [nexH, nexH_any W e (by omega), show anyN (uSH W e j) (t + 1) = (anyN (uSH W e j) t || uSH W e j t) from rfl, show anyN (fun i => anyN (takH W j i (uS W e j i)) 48) (t + 1) = (anyN (fun i => anyN (takH W j i (uS W e j i)) 48) t || anyN (takH W j t (uS W e j t)) 48) from rfl]
    have e1 : anyN (takH (nexW W e j t) j t (uS W e j t)) 48 = anyN (takH W j t (uS W e j t)) 48 := anyN_congr fun k hk => by
      unfold takH
      rw [nexW_other (by omega), nexW_other (by omega)]
    rw [e1]
    generalize anyN (uSH W e j) t = a
    generalize anyN (fun i => anyN (takH W j i (uS W e j i)) 48) t = b
    generalize uSH W e j t = c
    generalize anyN (takH W j t (uS W e j t)) 48 = d
    cases a <;> cases b <;> cases c <;> cases d <;> rfl
def plcN (j : Nat) : Nat := j * (j - 1) / 2
theorem plcN_next : ∀ j, j < 24 → plcN (j + 1) = plcN j + j := by decide
theorem plcN_le : ∀ j, j ≤ 24 → plcN j ≤ 276 := by decide
theorem plc_N (i : Nat) {j : Nat} (hj : j < 24) : (plc i j).toNat = plcN j + i := by
  have h : ∀ j : Nat, j < 24 → (j : Int) * ((j : Int) - 1) / 2 = ((plcN j : Nat) : Int) := by decide
  unfold plc
  rw [h j hj]; omega
theorem plcN_inj {i j x y : Nat} (h1 : i < j) (h2 : j < 24) (k1 : x < y) (k2 : y < 24) (h : plcN j + i = plcN y + x) : i = x ∧ j = y := by
  have := plc_inj (i := i) (j := j) (x := x) (y := y) (by omega) (by omega) (by omega) (by omega) (by omega) (by omega) (by
    have e1 := plc_N i h2
    have e2 := plc_N x k2
    have b1 := plc_bd (i := i) (j := j) (by omega) (by omega) (by omega)
    have b2 := plc_bd (i := x) (j := y) (by omega) (by omega) (by omega)
    omega)
  omega
/-- What a round leaves of the answer. -/
theorem outI_at (W e o : Nat → Int) {j : Nat} (hj : j < 24) : ∀ {t : Nat}, t ≤ j → ∀ q, outI W e o j t q = if q = 276 + j then dF W e j else if plcN j ≤ q ∧ q < plcN j + t then uS W e j (q - plcN j) else o q
  | 0, _, q => by
    unfold outI upd
    by_cases h : q = 276 + j
    · rw [if_pos h, if_pos h]
    · rw [if_neg h, if_neg h, if_neg (by omega)]
  | t + 1, ht, q => by
    have hb := plcN_le (j + 1) (by omega)
    have hn := plcN_next j hj
    unfold outI
    rw [plc_N t hj]
    unfold upd
    by_cases h : q = plcN j + t
    · rw [if_pos h, if_neg (by omega), if_pos (by omega), show q - plcN j = t by omega]
    · rw [if_neg h, outI_at W e o hj (by omega) q]
      by_cases h1 : q = 276 + j
      · rw [if_pos h1, if_pos h1]
      · rw [if_neg h1, if_neg h1]
        by_cases h2 : plcN j ≤ q ∧ q < plcN j + t
        · rw [if_pos h2, if_pos (by omega)]
        · rw [if_neg h2, if_neg (by omega)]
theorem range_split (F : Nat → Int) (a b : Nat) : (List.range (a + b)).map F = (List.range a).map F ++ (List.range b).map fun k => F (a + k) := by
  rw [List.range_add, List.map_append, List.map_map]; rfl
theorem stL_ok (W e : Nat → Int) (h0 : Bool) : ∀ (m n : Nat), m + n = 24 →
    stL ((List.range 48).map e) m (rowsR (stW W e n) m) ((List.range (276 - plcN m)).map fun k => stO W e n (plcN m + k)) ((List.range n).map fun k => stO W e n (276 + m + k)) (h0 || stH W e n) = ((List.range 300).map (stO W e 24), h0 || stH W e 24)
  | 0, n, hmn => by
    obtain rfl : n = 24 := by omega
    rw [stL]
    · rw [show 300 = 276 + 24 from rfl, range_split]
      simp [plcN]
    · intro _ _ _ h; cases h
  | m + 1, n, hmn => by
    have hm : 23 - n = m := by omega
    have ih := stL_ok W e h0 m (n + 1) (by omega)
    have hN := plcN_next m (by omega)
    have hle := plcN_le (m + 1) (by omega)
    rw [rowsR_succ, stL]
    simp only [forceI_eq, forceL_eq, forceLL_eq, forceB_eq]
    have ey : zip2F mulv (rowL (stW W e n) m) ((List.range 48).map e) = (List.range 48).map (yF (stW W e n) e m) := by unfold rowL; rw [zip2F_map]; rfl
    have ed : dotl (rowL (stW W e n) m) ((List.range 48).map (yF (stW W e n) e m)) = dotv (rowJ (stW W e n) m) (yF (stW W e n) e m) 48 := by unfold rowL; rw [dotl_range]
    have edh : dothl (rowL (stW W e n) m) ((List.range 48).map (yF (stW W e n) e m)) = doth (rowJ (stW W e n) m) (yF (stW W e n) e m) 48 := by unfold rowL; rw [dothl_range]
    have eyh : any2 mulh (rowL (stW W e n) m) ((List.range 48).map e) = anyN (yH (stW W e n) e m) 48 := by unfold rowL; rw [any2_map, anyN_range]; rfl
    rw [ey, ed, edh, eyh, show clampv (dotv (rowJ (stW W e n) m) (yF (stW W e n) e m) 48) 1 72057594037927936 = dF (stW W e n) e m from rfl]
    have eu : quosL ((List.range 48).map (yF (stW W e n) e m)) (dF (stW W e n) e m) (rowsR (stW W e n) m) = (List.range m).reverse.map (uS (stW W e n) e m) := by
      unfold rowsR
      rw [quosL_map]
      refine List.map_congr_left fun i _ => ?_
      unfold rowL; rw [dotl_range]; rfl
    have euh : quosH ((List.range 48).map (yF (stW W e n) e m)) (dF (stW W e n) e m) (rowsR (stW W e n) m) = anyN (uSH (stW W e n) e m) m := by
      unfold rowsR
      rw [quosH_map, any_rev]
      refine anyN_congr fun i _ => ?_
      unfold rowL; rw [dotl_range, dothl_range]; rfl
    rw [eu, euh]
    have et : takL (rowL (stW W e n) m) ((List.range m).reverse.map (uS (stW W e n) e m)) (rowsR (stW W e n) m) = rowsR (stW W e (n + 1)) m := by
      unfold rowsR
      rw [takL_map]
      refine List.map_congr_left fun i hi => ?_
      have hi : i < m := by simpa using hi
      unfold rowL
      rw [zip2F_map]
      refine List.map_congr_left fun k hk => ?_
      have hk : k < 48 := by simpa using hk
      show _ = stW W e (n + 1) (48 * i + k)
      rw [stW, hm, nexW_at hk hi hi (Nat.le_refl _)]; rfl
    have eth : takHL (rowL (stW W e n) m) ((List.range m).reverse.map (uS (stW W e n) e m)) (rowsR (stW W e n) m) = anyN (fun i => anyN (takH (stW W e n) m i (uS (stW W e n) e m i)) 48) m := by
      unfold rowsR
      rw [takHL_map, any_rev]
      refine anyN_congr fun i _ => ?_
      unfold rowL; rw [any2_map, anyN_range]; rfl
    rw [et, eth]
    have eh : ((h0 || stH W e n) || (anyN (yH (stW W e n) e m) 48 || doth (rowJ (stW W e n) m) (yF (stW W e n) e m) 48 || clamph (dotv (rowJ (stW W e n) m) (yF (stW W e n) e m) 48) 1 72057594037927936 || (anyN (uSH (stW W e n) e m) m || anyN (fun i => anyN (takH (stW W e n) m i (uS (stW W e n) e m i)) 48) m))) = (h0 || stH W e (n + 1)) := by
      rw [stH, hm, nexH_any _ _ (Nat.le_refl _), Bool.or_assoc]; rfl
    have eau : revOn ((List.range m).reverse.map (uS (stW W e n) e m)) ((List.range (276 - plcN (m + 1))).map fun k => stO W e n (plcN (m + 1) + k)) = (List.range (276 - plcN m)).map fun k => stO W e (n + 1) (plcN m + k) := by
      rw [revOn_eq, ← List.map_reverse, List.reverse_reverse, show 276 - plcN m = m + (276 - plcN (m + 1)) by omega, range_split]
      congr 1
      · refine List.map_congr_left fun i hi => ?_
        have hi : i < m := by simpa using hi
        rw [stO, hm, outI_at _ _ _ (by omega) (Nat.le_refl _), if_neg (by omega), if_pos (by omega), show plcN m + i - plcN m = i by omega]
      · refine List.map_congr_left fun k hk => ?_
        have hk : k < 276 - plcN (m + 1) := by simpa using hk
        rw [stO, hm, outI_at _ _ _ (by omega) (Nat.le_refl _), if_neg (by omega), if_neg (by omega), hN, Nat.add_assoc]
    have ead : dF (stW W e n) e m :: (List.range n).map (fun k => stO W e n (276 + (m + 1) + k)) = (List.range (n + 1)).map fun k => stO W e (n + 1) (276 + m + k) := by
      rw [show List.range (n + 1) = List.range (1 + n) by rw [Nat.add_comm], range_split]
      show _ :: _ = stO W e (n + 1) (276 + m + 0) :: _
      congr 1
      · rw [stO, hm, outI_at _ _ _ (by omega) (Nat.le_refl _), if_pos (by omega)]
      · refine List.map_congr_left fun k _ => ?_
        rw [stO, hm, outI_at _ _ _ (by omega) (Nat.le_refl _), if_neg (by omega), if_neg (by omega)]
        congr 1; omega
    rw [eh, eau, ead]
    exact ih
/-- The step of 900 numbers: factors, a matrix, noise. -/
def mapN (f : Nat → Int) : List Nat → List Int
  | [] => []
  | a :: l => forceI (f a) fun z => z :: mapN f l
theorem mapN_eq (f : Nat → Int) : ∀ l, mapN f l = l.map f
  | [] => rfl
  | a :: l => by rw [mapN, forceI_eq, mapN_eq f l]; rfl
def mapLL (f : Nat → List Int) : List Nat → List (List Int)
  | [] => []
  | a :: l => f a :: mapLL f l
theorem mapLL_eq (f : Nat → List Int) : ∀ l, mapLL f l = l.map f
  | [] => rfl
  | a :: l => by rw [mapLL, mapLL_eq f l]; rfl
def dotsL (r : List Int) : List (List Int) → List Int
  | [] => []
  | c :: l => forceI (dotl r c) fun z => z :: dotsL r l
def dotsH (r : List Int) : List (List Int) → Bool
  | [] => false
  | c :: l => dotsH r l || dothl r c
theorem dotsL_eq (r : List Int) : ∀ l, dotsL r l = l.map (dotl r)
  | [] => rfl
  | c :: l => by rw [dotsL, forceI_eq, dotsL_eq r l]; rfl
theorem dotsH_eq (r : List Int) : ∀ l, dotsH r l = l.any (dothl r)
  | [] => rfl
  | c :: l => by rw [dotsH, dotsH_eq r l, List.any_cons, Bool.or_comm]
def cellL (l : List Int) (k : Nat) : Int := l.getD k 0
def stepL (l : List Int) : List Int × Bool :=
  forceL (mapN (condF (cellL l)) (List.range 300)) fun cp =>
  forceL (mapN (fun k => satv (cellL l (300 + k))) (List.range 576)) fun g =>
  forceL (mapN (fun k => if k < 24 then cellL cp (276 + k) else clampv (cellL l (876 + (k - 24))) 0 72057594037927936) (List.range 48)) fun e =>
  forceLL (mapLL (fun (k : Nat) => mapN (fun (t : Nat) => uF (cellL cp) (t : Int) (k : Int)) (List.range (k + 1))) (List.range 24)) fun cols =>
  forceLL (mapLL (fun i => mapN (fun t => cellL g (24 * i + t)) (List.range 24)) (List.range 24)) fun gs =>
  forceLL (mapLL (fun i => dotsL (gs.getD i []) cols ++ mapN (fun k => if k = i then 1073741824 else 0) (List.range 24)) (List.range 24).reverse) fun rows =>
  forceB (condH (cellL l) || (List.range 576).any (fun k => sath (cellL l (300 + k))) || gs.any (fun r => dotsH r cols) || (List.range 24).any (fun k => clamph (cellL l (876 + k)) 0 72057594037927936)) fun h =>
  stL e 24 rows [] [] h
theorem cellL_range (F : Nat → Int) {n k : Nat} (h : k < n) : cellL ((List.range n).map F) k = F k := by simp [cellL, List.getD, h]
theorem dsum_short (xs ys : Nat → Int) (r : List Nat) : ∀ l : List Nat, dsum ((l ++ r).map xs) (l.map ys) = dsum (l.map xs) (l.map ys)
  | [] => by cases r <;> rfl
  | k :: l => by
    have := dsum_short xs ys r l
    simp only [List.cons_append, List.map_cons, dsum]
    rw [this]
theorem any2_short (f : Int → Int → Bool) (xs ys : Nat → Int) (r : List Nat) : ∀ l : List Nat, any2 f ((l ++ r).map xs) (l.map ys) = any2 f (l.map xs) (l.map ys)
  | [] => by cases r <;> rfl
  | k :: l => by
    have := any2_short f xs ys r l
    simp only [List.cons_append, List.map_cons, any2]
    rw [this]
theorem range_more {m n : Nat} (h : m ≤ n) : ∃ r, List.range n = List.range m ++ r := by
  obtain ⟨d, rfl⟩ := Nat.exists_eq_add_of_le h
  exact ⟨_, List.range_add⟩
theorem dotl_min (xs ys : Nat → Int) {m n : Nat} (h : m ≤ n) : dotl ((List.range n).map xs) ((List.range m).map ys) = dotv xs ys m := by
  obtain ⟨r, e⟩ := range_more h
  rw [e]; unfold dotl dotv; rw [dsum_short, dsum_range]
theorem dothl_min (xs ys : Nat → Int) {m n : Nat} (h : m ≤ n) : dothl ((List.range n).map xs) ((List.range m).map ys) = doth xs ys m := by
  obtain ⟨r, e⟩ := range_more h
  rw [e]; unfold dothl doth; rw [dsum_short, any2_short, dsum_range, anyP_range]
theorem rowW_row (p g : Nat → Int) (n : Nat → Nat) {i : Nat} (_hi : i < 24) : rowL (rowW p g n) i =
    ((List.range 24).map fun (k : Nat) => dotv (fun t => g (24 * i + t)) (fun (t : Nat) => uF p (t : Int) (k : Int)) (n k)) ++ (List.range 24).map fun k => if k = i then 1073741824 else 0 := by
  unfold rowL
  rw [show 48 = 24 + 24 from rfl, range_split]
  congr 1
  · refine List.map_congr_left fun k hk => ?_
    have hk : k < 24 := by simpa using hk
    unfold rowJ rowW
    rw [show (48 * i + k) % 48 = k by omega, show (48 * i + k) / 48 = i by omega, if_pos hk]
  · refine List.map_congr_left fun k hk => ?_
    have hk : k < 24 := by simpa using hk
    unfold rowJ rowW
    rw [show (48 * i + (24 + k)) % 48 = 24 + k by omega, show (48 * i + (24 + k)) / 48 = i by omega, if_neg (by omega)]
    by_cases h : k = i
    · rw [if_pos (by omega), if_pos h]
    · rw [if_neg (by omega), if_neg h]
theorem dotv_congr {xs xs' ys ys' : Nat → Int} {n : Nat} (h1 : ∀ k, k < n → xs k = xs' k) (h2 : ∀ k, k < n → ys k = ys' k) : sumP xs ys n = sumP xs' ys' n ∧ anyP xs ys n = anyP xs' ys' n := by
  induction n with
  | zero => exact ⟨rfl, rfl⟩
  | succ n ih =>
    obtain ⟨e1, e2⟩ := ih (fun k hk => h1 k (by omega)) (fun k hk => h2 k (by omega))
    rw [sumP, sumP, anyP, anyP, e1, e2, h1 n (by omega), h2 n (by omega)]
    exact ⟨rfl, rfl⟩
theorem uF_congr {f g : Nat → Int} (h : ∀ k, k < 276 → f k = g k) (i j : Int) : uF f i j = uF g i j := by
  unfold uF
  cases hc : aboveB i j
  · rfl
  · obtain ⟨h0, h1, h2⟩ := (aboveB_iff i j).1 hc
    have := plc_bd h0 h1 h2
    exact h _ (by omega)
theorem stepL_ok (l : List Int) : stepL l = ((List.range 300).map (stepF (cellL l) (fun k => cellL l (300 + k)) (fun k => cellL l (876 + k))), stepH (cellL l) (fun k => cellL l (300 + k)) (fun k => cellL l (876 + k))) := by
  unfold stepL
  simp only [forceL_eq, forceLL_eq, forceB_eq, mapN_eq, mapLL_eq]
  generalize hp : cellL l = p
  generalize hg : (fun k => p (300 + k)) = g
  generalize hq : (fun k => p (876 + k)) = q
  have hg' : ∀ k, p (300 + k) = g k := fun k => by rw [← hg]
  have hq' : ∀ k, p (876 + k) = q k := fun k => by rw [← hq]
  simp only [hg', hq']
  have ee : ((List.range 48).map fun k => if k < 24 then cellL ((List.range 300).map (condF p)) (276 + k) else clampv (q (k - 24)) 0 72057594037927936) = (List.range 48).map (wei (condF p) q) := by
    refine List.map_congr_left fun k hk => ?_
    unfold wei
    by_cases h : k < 24
    · rw [if_pos h, if_pos h, cellL_range _ (by omega)]
    · rw [if_neg h, if_neg h]
  have ec : ((List.range 24).map fun (k : Nat) => (List.range (k + 1)).map fun (t : Nat) => uF (cellL ((List.range 300).map (condF p))) (t : Int) (k : Int)) = (List.range 24).map fun (k : Nat) => (List.range (k + 1)).map fun (t : Nat) => uF (condF p) (t : Int) (k : Int) := by
    refine List.map_congr_left fun k hk => List.map_congr_left fun t ht => ?_
    exact uF_congr (fun m hm => cellL_range _ (by omega)) _ _
  have eg : ((List.range 24).map fun i => (List.range 24).map fun t => cellL ((List.range 576).map fun k => satv (g k)) (24 * i + t)) = (List.range 24).map fun i => (List.range 24).map fun t => sat576 g (24 * i + t) := by
    refine List.map_congr_left fun i hi => List.map_congr_left fun t ht => ?_
    have hi : i < 24 := by simpa using hi
    have ht : t < 24 := by simpa using ht
    exact cellL_range _ (by omega)
  rw [ee, ec, eg]
  have er : ((List.range 24).reverse.map fun i => dotsL (((List.range 24).map fun i => (List.range 24).map fun t => sat576 g (24 * i + t)).getD i []) ((List.range 24).map fun (k : Nat) => (List.range (k + 1)).map fun (t : Nat) => uF (condF p) (t : Int) (k : Int)) ++ (List.range 24).map fun k => if k = i then (1073741824 : Int) else 0) = rowsR (rowW (condF p) (sat576 g) fun k => k + 1) 24 := by
    unfold rowsR
    refine List.map_congr_left fun i hi => ?_
    have hi : i < 24 := by simpa using hi
    rw [rowW_row _ _ _ hi, dotsL_eq, List.map_map]
    congr 1
    refine List.map_congr_left fun k hk => ?_
    have hk : k < 24 := by simpa using hk
    have : ((List.range 24).map fun i => (List.range 24).map fun t => sat576 g (24 * i + t)).getD i [] = (List.range 24).map fun t => sat576 g (24 * i + t) := by simp [List.getD, hi]
    rw [this]
    exact dotl_min _ _ (by omega)
  rw [er]
  have eh : (condH p || (List.range 576).any (fun k => sath (g k)) || ((List.range 24).map fun i => (List.range 24).map fun t => sat576 g (24 * i + t)).any (fun r => dotsH r ((List.range 24).map fun (k : Nat) => (List.range (k + 1)).map fun (t : Nat) => uF (condF p) (t : Int) (k : Int))) || (List.range 24).any (fun k => clamph (q k) 0 72057594037927936)) =
      (condH p || anyN (fun k => sath (g k)) 576 || anyN (fun k => anyN (fun i => rowsH (condF p) (sat576 g) (fun k => k + 1) (48 * i + k)) 24) 24 || anyN (fun k => clamph (q k) 0 72057594037927936) 24) := by
    rw [anyN_range, anyN_range]
    congr 2
    rw [Bool.eq_iff_iff, anyN_iff, List.any_eq_true]
    have row : ∀ i k, i < 24 → k < 24 → dothl ((List.range 24).map fun t => sat576 g (24 * i + t)) ((List.range (k + 1)).map fun (t : Nat) => uF (condF p) (t : Int) (k : Int)) = rowsH (condF p) (sat576 g) (fun k => k + 1) (48 * i + k) := fun i k hi hk => by
      unfold rowsH
      rw [show (48 * i + k) % 48 = k by omega, show (48 * i + k) / 48 = i by omega]
      exact dothl_min _ _ (by omega)
    constructor
    · rintro ⟨r, hr, h⟩
      obtain ⟨i, hi, rfl⟩ := List.mem_map.1 hr
      have hi : i < 24 := by simpa using hi
      rw [dotsH_eq, List.any_eq_true] at h
      obtain ⟨c, hc, h⟩ := h
      obtain ⟨k, hk, rfl⟩ := List.mem_map.1 hc
      have hk : k < 24 := by simpa using hk
      rw [row i k hi hk] at h
      exact ⟨k, hk, anyN_iff.2 ⟨i, hi, h⟩⟩
    · rintro ⟨k, hk, h⟩
      obtain ⟨i, hi, h⟩ := anyN_iff.1 h
      refine ⟨_, List.mem_map.2 ⟨i, by simpa using hi, rfl⟩, ?_⟩
      rw [dotsH_eq, List.any_eq_true]
      refine ⟨_, List.mem_map.2 ⟨k, by simpa using hk, rfl⟩, ?_⟩
      rw [row i k hi hk]; exact h
  rw [eh]
  generalize hh : (condH p || anyN (fun k => sath (g k)) 576 || anyN (fun k => anyN (fun i => rowsH (condF p) (sat576 g) (fun k => k + 1) (48 * i + k)) 24) 24 || anyN (fun k => clamph (q k) 0 72057594037927936) 24) = h0
  have := stL_ok (rowW (condF p) (sat576 g) fun k => k + 1) (wei (condF p) q) h0 24 0 rfl
  rw [stW, stH, Bool.or_false] at this
  refine this.trans ?_
  unfold stepF stepH
  rw [hh]
/-- The same step, quick to reckon. -/
def dsumZ : List Int → List Int → Int
  | a :: l, b :: m => bif zeroI a then dsumZ l m else bif zeroI b then dsumZ l m else satZ a * satZ b + dsumZ l m
  | _, _ => 0
theorem dsumZ_eq : ∀ l m : List Int, dsumZ l m = dsum l m
  | [], m => by cases m <;> rfl
  | a :: l, [] => rfl
  | a :: l, b :: m => by
    rw [dsumZ, dsum, dsumZ_eq l m, satZ_eq, satZ_eq]
    cases h : zeroI a
    · cases h2 : zeroI b
      · rfl
      · rw [zeroI_eq h2, satv_zero, Int.mul_zero, Int.zero_add]; rfl
    · rw [zeroI_eq h, satv_zero, Int.zero_mul, Int.zero_add]; rfl
def dotZ (l m : List Int) : Int := satZ (rndZ (dsumZ l m))
theorem dotZ_eq (l m : List Int) : dotZ l m = dotl l m := by unfold dotZ dotl; rw [satZ_eq, rndZ_eq, dsumZ_eq]
def dothZ (l m : List Int) : Bool := any2 (fun a b => sathZ a || sathZ b) l m || sathZ (rndZ (dsumZ l m))
theorem dothZ_eq (l m : List Int) : dothZ l m = dothl l m := by
  unfold dothZ dothl
  rw [sathZ_eq, rndZ_eq, dsumZ_eq, show (fun a b => sathZ a || sathZ b) = (fun a b => sath a || sath b) by funext a b; rw [sathZ_eq, sathZ_eq]]
def quosLZ (y : List Int) (d : Int) : List (List Int) → List Int
  | [] => []
  | r :: l => forceI (quoZ (dotZ r y) d) fun z => z :: quosLZ y d l
theorem quosLZ_eq (y : List Int) (d : Int) : ∀ l, quosLZ y d l = quosL y d l
  | [] => rfl
  | r :: l => by rw [quosLZ, quosL, forceI_eq, forceI_eq, quosLZ_eq y d l, quoZ_eq, dotZ_eq]
def quosHZ (y : List Int) (d : Int) : List (List Int) → Bool
  | [] => false
  | r :: l => quosHZ y d l || (dothZ r y || quohZ (dotZ r y) d)
theorem quosHZ_eq (y : List Int) (d : Int) : ∀ l, quosHZ y d l = quosH y d l
  | [] => rfl
  | r :: l => by rw [quosHZ, quosH, quosHZ_eq y d l, quohZ_eq, dotZ_eq, dothZ_eq]
def takLZ (rj : List Int) : List Int → List (List Int) → List (List Int)
  | u :: us, r :: l => zip2F (fun a b => subZ a (mulZ u b)) r rj :: takLZ rj us l
  | _, _ => []
theorem takLZ_eq (rj : List Int) : ∀ us l, takLZ rj us l = takL rj us l
  | [], l => by cases l <;> rfl
  | u :: us, [] => rfl
  | u :: us, r :: l => by
    rw [takLZ, takL, takLZ_eq rj us l, show (fun a b => subZ a (mulZ u b)) = (fun a b => subv a (mulv u b)) by funext a b; rw [subZ_eq, mulZ_eq]]
def takHLZ (rj : List Int) : List Int → List (List Int) → Bool
  | u :: us, r :: l => takHLZ rj us l || any2 (fun a b => mulhZ u b || subhZ a (mulZ u b)) r rj
  | _, _ => false
theorem takHLZ_eq (rj : List Int) : ∀ us l, takHLZ rj us l = takHL rj us l
  | [], l => by cases l <;> rfl
  | u :: us, [] => rfl
  | u :: us, r :: l => by
    rw [takHLZ, takHL, takHLZ_eq rj us l, show (fun a b => mulhZ u b || subhZ a (mulZ u b)) = (fun a b => mulh u b || subh a (mulv u b)) by funext a b; rw [mulhZ_eq, subhZ_eq, mulZ_eq]]
def stLZ (e : List Int) : Nat → List (List Int) → List Int → List Int → Bool → List Int × Bool
  | n + 1, rj :: rest, au, ad, h =>
    forceL (zip2F mulZ rj e) fun y => forceI (clampv (dotZ rj y) 1 72057594037927936) fun d => forceL (quosLZ y d rest) fun us =>
      forceB (h || (any2 mulhZ rj e || dothZ rj y || clamph (dotZ rj y) 1 72057594037927936 || (quosHZ y d rest || takHLZ rj us rest))) fun h' =>
        forceLL (takLZ rj us rest) fun rest' => stLZ e n rest' (revOn us au) (d :: ad) h'
  | _, _, au, ad, h => (au ++ ad, h)
theorem stLZ_eq (e : List Int) : ∀ n rows au ad h, stLZ e n rows au ad h = stL e n rows au ad h
  | 0, rows, au, ad, h => by cases rows <;> rfl
  | n + 1, [], au, ad, h => rfl
  | n + 1, rj :: rest, au, ad, h => by
    rw [stLZ, stL]
    simp only [forceI_eq, forceL_eq, forceLL_eq, forceB_eq, stLZ_eq e n, dotZ_eq, dothZ_eq, quosLZ_eq, quosHZ_eq, takLZ_eq, takHLZ_eq]
    rw [show mulZ = mulv by funext a b; exact mulZ_eq a b, show mulhZ = mulh by funext a b; exact mulhZ_eq a b]
def dotsLZ (r : List Int) : List (List Int) → List Int
  | [] => []
  | c :: l => forceI (dotZ r c) fun z => z :: dotsLZ r l
theorem dotsLZ_eq (r : List Int) : ∀ l, dotsLZ r l = dotsL r l
  | [] => rfl
  | c :: l => by rw [dotsLZ, dotsL, forceI_eq, forceI_eq, dotsLZ_eq r l, dotZ_eq]
def dotsHZ (r : List Int) : List (List Int) → Bool
  | [] => false
  | c :: l => dotsHZ r l || dothZ r c
theorem dotsHZ_eq (r : List Int) : ∀ l, dotsHZ r l = dotsH r l
  | [] => rfl
  | c :: l => by rw [dotsHZ, dotsH, dotsHZ_eq r l, dothZ_eq]
/-- Columns of U, by what is left of its numbers. -/
def stepZ (l : List Int) : List Int × Bool :=
  forceL (mapN (condF (cellL l)) (List.range 300)) fun cp =>
  forceL (mapN (fun k => satZ (cellL l (300 + k))) (List.range 576)) fun g =>
  forceL (mapN (fun k => if k < 24 then cellL cp (276 + k) else clampv (cellL l (876 + (k - 24))) 0 72057594037927936) (List.range 48)) fun e =>
  forceLL (mapLL (fun k => mapN (fun t => uF (cellL cp) (t : Int) (k : Int)) (List.range (k + 1))) (List.range 24)) fun cols =>
  forceLL (mapLL (fun i => mapN (fun t => cellL g (24 * i + t)) (List.range 24)) (List.range 24)) fun gs =>
  forceLL (mapLL (fun i => dotsLZ (gs.getD i []) cols ++ mapN (fun k => if k = i then 1073741824 else 0) (List.range 24)) (List.range 24).reverse) fun rows =>
  forceB (condH (cellL l) || (List.range 576).any (fun k => sathZ (cellL l (300 + k))) || gs.any (fun r => dotsHZ r cols) || (List.range 24).any (fun k => clamph (cellL l (876 + k)) 0 72057594037927936)) fun h =>
  stLZ e 24 rows [] [] h
theorem stepZ_eq (l : List Int) : stepZ l = stepL l := by
  unfold stepZ stepL
  simp only [stLZ_eq, dotsLZ_eq, dotsHZ_eq, satZ_eq, sathZ_eq]
/-- A row of numbers of 64 bits as one number. -/
def encN : List Int → Nat
  | [] => 0
  | a :: r => (a + 9223372036854775808).toNat + 18446744073709551616 * encN r
def decK (k : Nat) (R : Int) : Int := ((R.toNat / 2 ^ (64 * k) % 18446744073709551616 : Nat) : Int) - 9223372036854775808
theorem decK_enc : ∀ {l : List Int} {k : Nat}, (∀ a ∈ l, -9223372036854775808 ≤ a ∧ a ≤ 9223372036854775807) → k < l.length → decK k (encN l : Nat) = l.getD k 0
  | a :: r, 0, h, _ => by
    have ha := h a (List.mem_cons_self ..)
    unfold decK
    rw [show ((encN (a :: r) : Nat) : Int).toNat = (a + 9223372036854775808).toNat + 18446744073709551616 * encN r from rfl]
    simp only [Nat.mul_zero, Nat.pow_zero, Nat.div_one, List.getD_cons_zero]
    omega
  | a :: r, k + 1, h, hk => by
    have ha := h a (List.mem_cons_self ..)
    have ih := decK_enc (l := r) (k := k) (fun b hb => h b (List.mem_cons_of_mem _ hb)) (by simpa using hk)
    rw [List.getD_cons_succ, ← ih]
    unfold decK
    rw [show ((encN (a :: r) : Nat) : Int).toNat = (a + 9223372036854775808).toNat + 18446744073709551616 * encN r from rfl, show ((encN r : Nat) : Int).toNat = encN r from rfl]
    rw [show 64 * (k + 1) = 64 + 64 * k by omega, Nat.pow_add, ← Nat.div_div_eq_div_mul, show ((a + 9223372036854775808).toNat + 18446744073709551616 * encN r) / 2 ^ 64 = encN r by omega]
end Go.Proofs.Ytdleeeahonfnkaa
