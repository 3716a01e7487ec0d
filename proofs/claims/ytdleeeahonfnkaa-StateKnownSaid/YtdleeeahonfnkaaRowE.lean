/- Rows of whole numbers, compared. -/
import Derived.Test.YtdleeeahonfnkaaRN
import Derived.Test.YtdleeeahonfnkaaSB
namespace Go.Proofs.Ytdleeeahonfnkaa
open Go.RowKit

def eqB (n : Nat) (f g : Nat → Int) : Bool := (List.range n).all fun k => f k == g k
theorem eqB_iff {n : Nat} {f g : Nat → Int} : eqB n f g = true ↔ ∀ k, k < n → f k = g k := by
  unfold eqB
  rw [List.all_eq_true]
  constructor
  · intro h k hk; simpa using h k (List.mem_range.2 hk)
  · intro h k hk; simpa using h k (List.mem_range.1 hk)
theorem eqB_same (n : Nat) (f : Nat → Int) : eqB n f f = true := eqB_iff.2 fun _ _ => rfl
theorem eqB_of {n : Nat} {f g : Nat → Int} (h : ∀ k, k < n → f k = g k) : eqB n f g = true := eqB_iff.2 h
theorem akin_ints : ∀ (l m : List Int), l.length = m.length → SX.akin (List.replicate l.length true) (l.map (Value.int .i64)) (m.map (Value.int .i64)) ∧ SX.aeq (l.map (Value.int .i64)) (m.map (Value.int .i64)) = (l == m)
  | [], [], _ => ⟨trivial, rfl⟩
  | a :: l, b :: m, h => by
    obtain ⟨h1, h2⟩ := akin_ints l m (by simpa using h)
    refine ⟨⟨rfl, h1⟩, ?_⟩
    simp only [List.map_cons, SX.aeq, SX.ceq, h2]
    rfl
  | [], _ :: _, h => by simp at h
  | _ :: _, [], h => by simp at h
theorem rowA_list (n : Nat) (f : Nat → Int) : rowA n f = ⟨((List.range n).map f).map (Value.int .i64)⟩ := by
  refine Array.ext_getElem? fun i => ?_
  by_cases hi : i < n
  · rw [rowA_get _ hi]; simp [hi]
  · rw [rowA_none _ (by omega)]; symm; simp; omega
theorem eqB_list (n : Nat) (f g : Nat → Int) : ((List.range n).map f == (List.range n).map g) = eqB n f g := by
  rw [Bool.eq_iff_iff, eqB_iff]
  simp
section
variable {P : Program} {n : Nat} {ty : TypeId} (hf : SX.flatOk P ty = some (List.replicate n true)) (f g : Nat → Int) (w : World)
include hf
theorem equal_row : (Op.equal ty (.agg (rowA n f)) (.agg (rowA n g))).run P w = .ok (eqB n f g) w := by
  obtain ⟨h1, h2⟩ := akin_ints ((List.range n).map f) ((List.range n).map g) (by simp)
  rw [List.length_map, List.length_range] at h1
  obtain ⟨h3, _⟩ := SX.equal_agg hf h1 w (.tmp 0) (.tmp 0) .eql
  rw [rowA_list, rowA_list, h3, h2, eqB_list]
theorem guard_row (op : BinOp) (x y : Operand) : (eqGuard op ty x y (.agg (rowA n f)) (.agg (rowA n g))).run P w = .ok () w := by
  obtain ⟨h1, h2⟩ := akin_ints ((List.range n).map f) ((List.range n).map g) (by simp)
  rw [List.length_map, List.length_range] at h1
  rw [rowA_list, rowA_list]
  exact (SX.equal_agg hf h1 w x y op).2
theorem eql_row : (binOp .eql ty (.agg (rowA n f)) (.agg (rowA n g))).run P w = .ok (.bool (eqB n f g)) w := by
  simp only [binOp, Sem.run_bind, equal_row hf, Sem.run_pure, Result.andThen_ok]
theorem neq_row : (binOp .neq ty (.agg (rowA n f)) (.agg (rowA n g))).run P w = .ok (.bool (!eqB n f g)) w := by
  simp only [binOp, Sem.run_bind, equal_row hf, Sem.run_pure, Result.andThen_ok]
end
end Go.Proofs.Ytdleeeahonfnkaa
