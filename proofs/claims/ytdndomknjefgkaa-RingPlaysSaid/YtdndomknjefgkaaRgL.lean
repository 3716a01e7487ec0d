/- One sample as a slice of its own. -/
import Derived.Test.YtdndomknjefgkaaRgE
namespace Go.Proofs.Ytdndomknjefgkaa.Rg
open Go.RowKit
theorem fold_set : ∀ (l : List Value) (cs : Array Value) (k : Nat), k + l.length ≤ cs.size → ∀ i, ((l.zipIdx k).foldl (fun (cs : Array Value) (x : Value × Nat) => cs.setIfInBounds (0 + x.2) x.1) cs)[i]? = if k ≤ i ∧ i < k + l.length then l[i - k]? else cs[i]?
  | [], cs, k, _, i => by rw [if_neg (by simp)]; rfl
  | a :: l, cs, k, h, i => by
    rw [List.length_cons] at h
    rw [List.zipIdx_cons, List.foldl_cons, fold_set l _ (k + 1) (by simp; omega) i, List.length_cons, Nat.zero_add, Array.getElem?_setIfInBounds]
    by_cases h1 : k + 1 ≤ i ∧ i < k + 1 + l.length
    · rw [if_pos h1, if_pos (by omega), show i - k = (i - (k + 1)) + 1 by omega, List.getElem?_cons_succ]
    · rw [if_neg h1]
      by_cases h2 : k = i
      · subst h2
        rw [if_pos rfl, if_pos (by omega), if_pos (by omega), Nat.sub_self, List.getElem?_cons_zero]
      · rw [if_neg h2, if_neg (by omega)]
theorem fill_row {N n : Nat} (f g : Nat → Int) (h : n ≤ N) (place : Nat → Option (Nat × Nat)) (hp : place 0 = some (0, n)) : Instr.fill place (rowA N f) [(0, .agg (rowA n g))] = some (rowA N fun k => if k < n then g k else f k) := by
  unfold Instr.fill Instr.fill
  rw [hp]
  have h1 : (Value.agg (rowA n g)).cells = rowA n g := rfl
  dsimp only
  rw [h1, rowA_size, rowA_size, if_neg (by simp; omega)]
  congr 1
  rw [← Array.foldl_toList, Array.toList_zipIdx]
  refine Array.ext_getElem? fun i => ?_
  have := fold_set (rowA n g).toList (rowA N f) 0 (by rw [Array.length_toList, rowA_size, rowA_size]; omega) i
  rw [this, Array.length_toList, rowA_size]
  by_cases hi : i < n
  · rw [if_pos (by omega), Nat.sub_zero, Array.getElem?_toList, rowA_get _ hi, rowA_get _ (by omega), if_pos hi]
  · rw [if_neg (by omega)]
    by_cases hN : i < N
    · rw [rowA_get _ hN, rowA_get _ hN, if_neg hi]
    · rw [rowA_none _ (by omega), rowA_none _ (by omega)]
theorem run_one (f : Nat → Int) (w : World) : (Instr.buildSlice 61 1 #[(0, .agg (rowA 9 f))]).run Try.prog w = .ok (.slice (some ⟨w.heap.size, 0, none⟩) 1 1) (w.alloc (.cells (rowA 9 f) 56)) := by
  have hz : (Array.range (1 * 9)).map (fun x => (rowA 9 fun _ => 0)[x % (rowA 9 fun _ => 0).size]!) = rowA 9 fun _ => 0 := by
    rw [rowA_size]
    refine Array.ext_getElem? fun i => ?_
    by_cases hi : i < 9
    · rw [rowA_get _ hi]
      have hg := rowA_get (n := 9) (fun _ => 0) (show i % 9 < 9 by omega)
      simp [hi, getElem!_def, hg]
    · rw [rowA_none _ (by omega)]; simp; omega
  have hf : Instr.fill (fun i => some (i * 9, 9)) (rowA 9 fun _ => 0) [(0, .agg (rowA 9 f))] = some (rowA 9 f) := by
    rw [fill_row (N := 9) (n := 9) _ f (Nat.le_refl _) _ rfl]
    exact congrArg some (rowA_congr fun k hk => if_pos hk)
  have hsz : (sizeOf 56).run Try.prog w = .ok 9 w := by kernel_rfl
  have hzv : (zeroValue 56).run Try.prog w = .ok (.agg (rowA 9 fun _ => 0)) w := by kernel_rfl
  unfold Instr.buildSlice
  rw [Sem.run_bind, run_underlying Try.underlying61]
  simp only [Result.andThen_ok]
  rw [Sem.run_bind, hsz]
  simp only [Result.andThen_ok]
  rw [if_neg (by decide), if_neg (by decide)]
  simp only [Sem.run_bind, Sem.run_pure, Result.andThen_ok, hzv, zero_cells, hz, hf]
  simp [newRow]
theorem step_one {ops : Array Oper} {o : Oper} {a : Act} {w : World} {K : Act → World → Prop} {Q : Exit → Act → World → Prop} {E : Prop} (hg : o.guard = none) (x : Operand)
    (hop : o.op = Op.buildSlice 61 1 #[(0, x)]) (f : Nat → Int) (hx : a.eval x = .agg (rowA 9 f)) (hK : K (a.put o.dst (.slice (some ⟨w.heap.size, 0, none⟩) 1 1)) (w.alloc (.cells (rowA 9 f) 56))) :
    if Region.wanted o (yielded ops a.tmps) = true then Oper.wp Try.prog o a w K Q else E := by
  have hw : Region.wanted o (yielded ops a.tmps) = true := by simp [Region.wanted, hg]
  rw [if_pos hw]
  unfold Oper.wp
  simp [execOp, hop, hx, run_one, Result.andThen]
  exact hK
end Go.Proofs.Ytdndomknjefgkaa.Rg
