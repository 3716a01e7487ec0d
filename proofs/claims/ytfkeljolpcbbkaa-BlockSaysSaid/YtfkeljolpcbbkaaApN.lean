/- A whole slice of numbers appended to a slice of none. -/
import Derived.Test.YtfkeljolpcbbkaaBlkD
import Derived.Deep.AppendSrc
import Derived.Laws.IdiomCopy
import Derived.Lib.Overlaps
import Derived.Lib.SliceRun
namespace Go.Proofs.Ytfkeljolpcbbkaa
open Go.RowKit
def il (n : Nat) (f : Nat → Int) : List Value := ((List.range n).map f).map (Value.int .i64)
theorem il_len (n : Nat) (f : Nat → Int) : (il n f).length = n := by simp [il]
theorem il_get {n : Nat} (f : Nat → Int) {j : Nat} (h : j < n) : (il n f)[j]? = some (.int .i64 (f j)) := by simp [il, h]
theorem il_one (n : Nat) (f : Nat → Int) : ∀ u ∈ il n f, u.oneCell' = true := by
  intro u hu
  unfold il at hu
  obtain ⟨a, _, rfl⟩ := List.mem_map.1 hu
  rfl
theorem il_src {w : World} {a ao n : Nat} {f : Nat → Int} (h : Ints w a ao n f) : ∀ j u, (il n f)[j]? = some u → w.cell? ((⟨a, ao, none⟩ : Addr).add j) = some u := by
  intro j u hu
  rw [show ((⟨a, ao, none⟩ : Addr).add j) = ⟨a, ao + j, none⟩ from Addr.add_mid a ao j]
  by_cases hj : j < n
  · rw [il_get f hj] at hu; injection hu with hu; rw [← hu]; exact h.at_ j hj
  · rw [List.getElem?_eq_none (by rw [il_len]; omega)] at hu; cases hu

section
variable {T e : TypeId} (ht : Try.prog.underlying T = some (.slice e)) (hi : (Try.prog.info? e).map (fun i => (i.zero, i.size, i.bytes)) = some (some (.int .i64 0), 1, 8))
theorem zeroRow1 (k : Nat) : Builtin.zeroCells (Value.int .i64 0).cells k = rowA k fun _ => 0 := by
  refine Array.ext_getElem? fun i => ?_
  unfold Builtin.zeroCells
  by_cases h : i < k
  · rw [rowA_get _ h]
    simp [Value.cells, h, Nat.mod_one]
  · rw [rowA_none _ (by omega)]
    simp [Value.cells]; omega
theorem grownRow1 (m k c : Nat) (g : Nat → Int) (hc : c = m + k) :
    (il 0 (fun _ => 0) ++ il m g).toArray ++ Builtin.zeroCells (Value.int .i64 0).cells k = rowA c fun q => if q < m then g q else 0 := by
  subst hc
  rw [zeroRow1]
  refine Array.ext_getElem? fun i => ?_
  rw [Array.getElem?_append]
  simp only [List.size_toArray, List.length_append, il_len, List.getElem?_toArray, List.getElem?_append, Nat.zero_add, Nat.not_lt_zero, if_false, Nat.sub_zero]
  by_cases h2 : i < m
  · rw [if_pos h2, il_get g h2, rowA_get _ (by omega), if_pos h2]
  · rw [if_neg h2]
    by_cases h3 : i < m + k
    · rw [rowA_get _ (by omega), rowA_get _ h3, if_neg h2]
    · rw [rowA_none _ (by omega), rowA_none _ (by omega)]
include ht hi
theorem app_one (w : World) (ty : TypeId) (B m c a ao : Nat) (g : Nat → Int) (hg : Ints w a ao m g) (h0 : 0 < m) (hs : m < 1000000) : ∃ C, m ≤ C ∧
    (Builtin.append_ #[T, T] ty #[.slice (some ⟨B, 0, none⟩) 0 0, .slice (some ⟨a, ao, none⟩) m c]).run Try.prog w =
      .ok (.slice (some ⟨w.heap.size, 0, none⟩) m C) (w.drew.alloc (.cells (rowA C fun q => if q < m then g q else 0) e)) := by
  obtain ⟨i, h1, h2, h3, h4⟩ := info_parts hi
  refine ⟨grownCap w (0 + m) 0 e, by have := grownCap_ge w (0 + m) 0 e; omega, ?_⟩
  have hge := grownCap_ge w (0 + m) 0 e
  have hold : (Builtin.firstCells 1 0 (.slice (some ⟨B, 0, none⟩) 0 0)).run Try.prog w.drew = .ok (il 0 fun _ => 0).toArray w.drew :=
    run_firstCells_some w.drew 1 0 ⟨B, 0, none⟩ 0 0 _ (il_len _ _) (fun j u hu => by simp [il] at hu)
  have key := run_append_grow_src w _ _ ty _ i _ ht h1 h2 (some ⟨B, 0, none⟩) 0 0 (il 0 fun _ => 0) (by rw [h3]; exact hold) (.slice (some ⟨a, ao, none⟩) m c) m (il m g) (by
      rw [h3]
      exact Src.ofSlice w ht _ _ _ _ (by rw [il_len, Nat.mul_one]) (il_src hg) (il_one _ _)) (by omega) (by omega) (by rw [h4]; exact growslice_fits (by omega) (by omega))
  rw [grownRow1 m _ (grownCap w (0 + m) 0 e) g (by omega)] at key
  simpa using key
theorem app_zero (w : World) (ty : TypeId) (B c : Nat) (a : Option Addr) : (Builtin.append_ #[T, T] ty #[.slice (some ⟨B, 0, none⟩) 0 0, .slice a 0 c]).run Try.prog w = .ok (.slice (some ⟨B, 0, none⟩) 0 0) w := by
  obtain ⟨i, h1, h2, h3, h4⟩ := info_parts hi
  have hl : ∀ (x : Addr), (loadCells x 0).run Try.prog w = .ok #[] w := fun x => by simpa using run_loadCells_list (P := Try.prog) w x [] (by simp)
  cases a <;> simp [Builtin.append_, run_underlying ht, sizeOf, typeInfo, h1, Builtin.lenOf, Builtin.firstCells, hl, storeCells]
/-- A slice that comes in, appended to one of none: a slice of its own. -/
theorem app_all (w : World) (ty : TypeId) (B n c p : Nat) (pa : Option Addr) (l : Nat → Int) (hn : n < 1000000) (hl : SlP w p pa n l) (hp : p < w.heap.size) :
    ∃ a' c' w', (Builtin.append_ #[T, T] ty #[.slice (some ⟨B, 0, none⟩) 0 0, .slice pa n c]).run Try.prog w = .ok (.slice a' n c') w' ∧ Below w.heap.size w w' ∧ SlP w' p a' n l := by
  rcases Nat.eq_zero_or_pos n with h0 | h0
  · subst h0
    exact ⟨_, _, w, app_zero ht hi w ty B c pa, Below.refl _ _, fun h => absurd h (by omega)⟩
  · obtain ⟨b, ob, rfl, hbp, hbw, hx⟩ := hl h0
    obtain ⟨C, hC, hr⟩ := app_one ht hi w ty B n c b ob l hx h0 hn
    refine ⟨_, C, _, hr, (Below.refl _ _).drew.alloc (Nat.le_refl _) _, fun _ => ⟨w.heap.size, 0, rfl, by omega, by simp, ⟨fun i hi' => ?_⟩⟩⟩
    have hB : Blk (w.drew.alloc (.cells (rowA C fun q => if q < n then l q else 0) e)) w.heap.size (rowA C fun q => if q < n then l q else 0) e := Blk.made _ _ _ rfl
    rw [Nat.zero_add, hB.cell, rowA_get _ (by omega), if_pos hi']
end
end Go.Proofs.Ytfkeljolpcbbkaa
