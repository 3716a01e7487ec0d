/- Slices of samples copied, grown, cleared. -/
import Derived.Test.YtdndomknjefgkaaRgD
import Derived.Lib.AppendZerosOnto
import Derived.Laws.Externs
namespace Go.Proofs.Ytdndomknjefgkaa.Rg
open Go.RowKit

def putL (g : Nat → Int) : Nat → List Int → Nat → Int
  | _, [] => g
  | o, a :: r => putL (upd g o a) (o + 1) r
theorem putL_at : ∀ (l : List Int) (g : Nat → Int) (o k : Nat), putL g o l k = if o ≤ k ∧ k < o + l.length then l.getD (k - o) 0 else g k
  | [], g, o, k => by rw [if_neg (by simp)]; rfl
  | a :: r, g, o, k => by
    rw [putL, putL_at r]
    by_cases h : k = o
    · subst h
      rw [if_neg (by omega), if_pos (by simp)]
      simp [upd]
    · by_cases h2 : o + 1 ≤ k ∧ k < o + 1 + r.length
      · rw [if_pos h2, if_pos (by simp; omega), show k - o = (k - (o + 1)) + 1 by omega, List.getD_cons_succ]
      · rw [if_neg h2, if_neg (by simp; omega)]
        unfold upd; rw [if_neg h]
theorem blk_put {B m : Nat} {t : TypeId} : ∀ (l : List Int) (w : World) (g : Nat → Int) (o : Nat), Blk w B (rowA m g) t → o + l.length ≤ m → Blk (w.setCells B o (l.map (Value.int .i64))) B (rowA m (putL g o l)) t
  | [], _, _, _, h, _ => h
  | a :: r, w, g, o, h, hm => by
    rw [List.map_cons, World.setCells, putL]
    exact blk_put r _ _ _ (h.setI (by simp at hm; omega) a) (by simp at hm; omega)
theorem blk_put_other {B C : Nat} {c : Array Value} {t : TypeId} (hne : C ≠ B) : ∀ (l : List Value) (w : World) (o : Nat), Blk w C c t → Blk (w.setCells B o l) C c t
  | [], _, _, h => h
  | v :: r, w, o, h => by
    rw [World.setCells]
    exact blk_put_other hne r _ _ (h.other hne v)

def il (n : Nat) (f : Nat → Int) : List Value := ((List.range n).map f).map (Value.int .i64)
theorem il_len (n : Nat) (f : Nat → Int) : (il n f).length = n := by simp [il]
theorem il_get {n : Nat} (f : Nat → Int) {j : Nat} (h : j < n) : (il n f)[j]? = some (.int .i64 (f j)) := by simp [il, h]
theorem il_one (n : Nat) (f : Nat → Int) : ∀ u ∈ il n f, u.oneCell' = true := by
  intro u hu
  unfold il at hu
  obtain ⟨a, _, rfl⟩ := List.mem_map.1 hu
  rfl
theorem il_src {w : World} {a ao n : Nat} {f : Nat → Int} (h : Ints w a ao n f) : ∀ j u, (il n f)[j]? = some u → w.cell? ((⟨a, ao, none⟩ : Addr).add j) = some u := by
  intro j u hu
  rw [show ((⟨a, ao, none⟩ : Addr).add j) = ⟨a, ao + j, none⟩ from Addr.add_mid a ao j]
  by_cases hj : j < n
  · rw [il_get f hj] at hu; injection hu with hu; rw [← hu]; exact h.at_ j hj
  · rw [List.getElem?_eq_none (by rw [il_len]; omega)] at hu; cases hu
/-- Numbers laid into a block from place o on. -/
def putI (w : World) (b o n : Nat) (f : Nat → Int) : World := w.setCells b o (il n f)
theorem putI_size (w : World) (b o n : Nat) (f : Nat → Int) : (putI w b o n f).heap.size = w.heap.size := heap_setCells b _ o w
theorem putI_blk {w : World} {b o n m : Nat} {f G : Nat → Int} {t : TypeId} (h : Blk w b (rowA m G) t) (hm : o + n ≤ m) : Blk (putI w b o n f) b (rowA m fun k => if o ≤ k ∧ k < o + n then f (k - o) else G k) t :=
  (blk_put ((List.range n).map f) w G o h (by simpa using hm)).congr fun k _ => by
    rw [putL_at]
    simp only [List.length_map, List.length_range]
    by_cases h1 : o ≤ k ∧ k < o + n
    · rw [if_pos h1, if_pos h1]
      simp [List.getD, show k - o < n by omega]
    · rw [if_neg h1, if_neg h1]
theorem putI_other {w : World} {b o n C : Nat} {f : Nat → Int} {c : Array Value} {t : TypeId} (h : Blk w C c t) (hne : C ≠ b) : Blk (putI w b o n f) C c t := blk_put_other hne _ _ _ h
theorem Tch.setCells {S : List Nat} {b : Nat} {w : World} (hb : b ∈ S ∨ w.heap.size ≤ b) : ∀ (vs : List Value) (o : Nat) (w1 : World), Tch S w w1 → Tch S w (w1.setCells b o vs)
  | [], _, _, h => h
  | v :: r, o, w1, h => by rw [World.setCells]; exact Tch.setCells hb r (o + 1) _ (h.set hb o v)
theorem Tch.putI {S : List Nat} {w w1 : World} (h : Tch S w w1) {b : Nat} (hb : b ∈ S ∨ w.heap.size ≤ b) (o n : Nat) (f : Nat → Int) : Tch S w (putI w1 b o n f) := Tch.setCells hb _ _ _ h
theorem run_copy9 (w : World) (ty : TypeId) (b o dLen dCap a ao sLen sCap N : Nat) (f : Nat → Int) {m : Nat} {G : Nat → Int} {bt : TypeId} (hN : Nat.min sLen dLen = N) (hB : Blk w b (rowA m G) bt) (hm : o + N * 9 ≤ m) (hf : Ints w a ao (N * 9) f) :
    (Builtin.copy_ #[61, 61] ty #[.slice (some ⟨b, o, none⟩) dLen dCap, .slice (some ⟨a, ao, none⟩) sLen sCap]).run Try.prog w = .ok (goInt N) (putI w b o (N * 9) f) := by
  subst hN
  have hl := run_loadCells_list (P := Try.prog) w ⟨a, ao, none⟩ (il (Nat.min sLen dLen * 9) f) (il_src hf)
  rw [il_len] at hl
  have hst := run_storeCells_cells (P := Try.prog) b o (il (Nat.min sLen dLen * 9) f) 0 w (fun j hj => by
      rw [il_len] at hj
      rw [Nat.add_zero, hB.cell, rowA_get _ (by omega)]; rfl) (fun j _ => hB.free _) (il_one _ _)
  cases hq : Try.prog.info? 56 with
  | none => have := samSize; rw [hq] at this; cases this
  | some i =>
    have hi : i.size = 9 := by have := samSize; rw [hq] at this; simpa using this
    simp [Builtin.copy_, run_underlying Try.underlying61, Builtin.lenOf, Builtin.firstCells, sizeOf, typeInfo, hq, hi, hl, hst, putI]
theorem zero_cells : (Value.agg (rowA 9 fun _ => 0)).cells = rowA 9 fun _ => 0 := by simp [Value.cells]
theorem zeroCells_row (k : Nat) : Builtin.zeroCells (Value.agg (rowA 9 fun _ => 0)).cells k = rowA (9 * k) fun _ => 0 := by
  rw [zero_cells]
  refine Array.ext_getElem? fun i => ?_
  unfold Builtin.zeroCells
  by_cases h : i < 9 * k
  · rw [rowA_get _ h]
    have h9 : i % 9 < 9 := by omega
    have hg := rowA_get (n := 9) (fun _ => 0) h9
    simp [rowA_size, show i < k * 9 by omega]
    rw [getElem!_def, hg]
  · rw [rowA_none _ (by omega)]
    simp [rowA_size]; omega
/-- A new row: what it was, what joins, noughts. -/
theorem grown_row (n m k c : Nat) (f g : Nat → Int) (hc : c = n + m + 9 * k) :
    (il n f ++ il m g).toArray ++ Builtin.zeroCells (Value.agg (rowA 9 fun _ => 0)).cells k = rowA c fun q => if q < n then f q else if q < n + m then g (q - n) else 0 := by
  subst hc
  rw [zeroCells_row]
  refine Array.ext_getElem? fun i => ?_
  rw [Array.getElem?_append]
  simp only [List.size_toArray, List.length_append, il_len, List.getElem?_toArray, List.getElem?_append]
  by_cases h1 : i < n
  · rw [if_pos (by omega), if_pos h1, il_get f h1, rowA_get _ (by omega), if_pos h1]
  · by_cases h2 : i < n + m
    · rw [if_pos h2, if_neg h1, il_get g (by omega), rowA_get _ (by omega), if_neg h1, if_pos h2]
    · rw [if_neg h2]
      by_cases h3 : i < n + m + 9 * k
      · rw [rowA_get _ (by omega), rowA_get _ h3, if_neg h1, if_neg h2]
      · rw [rowA_none _ (by omega), rowA_none _ (by omega)]
theorem sam_parts : ∃ i, Try.prog.info? 56 = some i ∧ i.zero = some (.agg (rowA 9 fun _ => 0)) ∧ i.size = 9 ∧ i.bytes = 72 := info_parts samInfo
theorem old_none (w : World) (c : Nat) (f : Nat → Int) : (Builtin.firstCells 9 0 (.slice none 0 c)).run Try.prog w = .ok (il (0 * 9) f).toArray w := by
  rw [run_firstCells_none]; rfl
theorem old_some {w : World} {a ao n : Nat} (c : Nat) {f : Nat → Int} (h : Ints w a ao (n * 9) f) : (Builtin.firstCells 9 n (.slice (some ⟨a, ao, none⟩) n c)).run Try.prog w = .ok (il (n * 9) f).toArray w :=
  run_firstCells_some w 9 n ⟨a, ao, none⟩ n c _ (il_len _ _) (il_src h)
/-- Samples join where there is no room. -/
theorem app_grow (w : World) (ty : TypeId) (base : Option Addr) (n cap m c a ao : Nat) (f g : Nat → Int) (hold : (Builtin.firstCells 9 n (.slice base n cap)).run Try.prog w.drew = .ok (il (n * 9) f).toArray w.drew)
    (hg : Ints w a ao (m * 9) g) (hc : cap < n + m) (hs : n + m < 1000000) : ∃ C, n + m ≤ C ∧ C ≤ maxLen ∧
    (Builtin.append_ #[61, 61] ty #[.slice base n cap, .slice (some ⟨a, ao, none⟩) m c]).run Try.prog w =
      .ok (.slice (some ⟨w.heap.size, 0, none⟩) (n + m) C) (w.drew.alloc (.cells (rowA (9 * C) fun q => if q < n * 9 then f q else if q < n * 9 + m * 9 then g (q - n * 9) else 0) 56)) := by
  obtain ⟨i, h1, h2, h3, h4⟩ := sam_parts
  refine ⟨grownCap w (n + m) cap 56, grownCap_ge w (n + m) cap _, grownCap_le_maxLen w (n + m) cap _ (by unfold maxLen; omega), ?_⟩
  have hge := grownCap_ge w (n + m) cap 56
  rw [← grown_row (n * 9) (m * 9) (grownCap w (n + m) cap 56 - (n + m)) _ f g (by omega)]
  refine run_append_grow_src w _ _ ty _ i _ Try.underlying61 h1 h2 base n cap (il (n * 9) f) (by rw [h3]; exact hold) _ m (il (m * 9) g) ?_ hc (by omega) (by
    rw [h4]; exact growslice_fits hc (by omega))
  rw [h3]
  exact Src.ofSlice w Try.underlying61 _ _ _ _ (il_len _ _) (il_src hg) (il_one _ _)
/-- .. where there is. -/
theorem app_room (w : World) (ty : TypeId) (b n cap m c a ao : Nat) (g F : Nat → Int) (hB : Blk w b (rowA (9 * cap) F) 56)
    (hg : Ints w a ao (m * 9) g) (hc : n + m ≤ cap) :
    (Builtin.append_ #[61, 61] ty #[.slice (some ⟨b, 0, none⟩) n cap, .slice (some ⟨a, ao, none⟩) m c]).run Try.prog w =
      .ok (.slice (some ⟨b, 0, none⟩) (n + m) cap) (putI w b (n * 9) (m * 9) g) := by
  obtain ⟨i, h1, h2, h3, h4⟩ := sam_parts
  have h := run_append_room_src (P := Try.prog) w 61 61 ty 56 i Try.underlying61 h1 b 0 n cap (.slice (some ⟨a, ao, none⟩) m c) m (il (m * 9) g)
    (by rw [h3]; exact Src.ofSlice w Try.underlying61 _ _ _ _ (il_len _ _) (il_src hg) (il_one _ _)) hc
    (fun j hj => by rw [il_len] at hj; rw [h3, hB.cell, rowA_get _ (by omega)]; rfl) (fun j _ => hB.free _)
  rw [h, h3, Nat.zero_add]; rfl
/-- Nothing joins. -/
theorem app_nothing (w : World) (ty : TypeId) (base : Option Addr) (n cap c : Nat) (a : Option Addr) (hc : n ≤ cap) :
    (Builtin.append_ #[61, 61] ty #[.slice base n cap, .slice a 0 c]).run Try.prog w = .ok (.slice base n cap) w := by
  obtain ⟨i, h1, h2, h3, h4⟩ := sam_parts
  have hl : ∀ (x : Addr), (loadCells x 0).run Try.prog w = .ok #[] w := fun x => by simpa using run_loadCells_list (P := Try.prog) w x [] (by simp)
  cases base <;> cases a <;> simp [Builtin.append_, run_underlying Try.underlying61, sizeOf, typeInfo, h1, h3, Builtin.lenOf, hc, Builtin.firstCells, hl, storeCells]
theorem app_zeros (w : World) (ty : TypeId) (base : Option Addr) (n cap k : Nat) (f : Nat → Int) (hold : (Builtin.firstCells 9 n (.slice base n cap)).run Try.prog w.drew = .ok (il (n * 9) f).toArray w.drew) (h0 : 0 < k) (hc : cap < n + k) (hs : n + k < 1000000) :
    ∃ C, n + k ≤ C ∧ C ≤ maxLen ∧ (Builtin.append_ #[61, 3] ty #[.slice base n cap, .int .i64 k]).run Try.prog w =
      .ok (.slice (some ⟨w.heap.size, 0, none⟩) (n + k) C) (w.drew.alloc (.cells (rowA (9 * C) fun q => if q < n * 9 then f q else 0) 56)) := by
  obtain ⟨i, h1, h2, h3, h4⟩ := sam_parts
  refine ⟨grownCap w (n + k) cap 56, grownCap_ge w (n + k) cap _, grownCap_le_maxLen w (n + k) cap _ (by unfold maxLen; omega), ?_⟩
  have hge := grownCap_ge w (n + k) cap 56
  rw [Lib.run_append_grow_zeros w _ _ ty _ i _ .i64 .i64 Try.underlying61 Try.underlying3 h1 h2 base n cap (il (n * 9) f) (by rw [h3]; exact hold) k h0 (by omega) hc (by omega) (by rw [h4]; omega) (by rw [h4]; exact growslice_fits hc (by omega))]
  rw [zeroCells_row k, show rowA (9 * k) (fun _ => 0) = (il (9 * k) fun _ => 0).toArray from rowA_list _ _, show (il (n * 9) f).toArray ++ (il (9 * k) fun _ => 0).toArray = (il (n * 9) f ++ il (9 * k) fun _ => 0).toArray by simp, grown_row (n * 9) (9 * k) _ (9 * grownCap w (n + k) cap 56) f (fun _ => 0) (by omega)]
  simp only [ite_self]
theorem run_clear9 (w : World) (ty : TypeId) (b o n c : Nat) {m : Nat} {G : Nat → Int} {bt : TypeId} (hn : 0 < n) (hB : Blk w b (rowA m G) bt) (hm : o + 9 * n ≤ m) :
    (Builtin.clear_ #[61] ty #[.slice (some ⟨b, o, none⟩) n c]).run Try.prog w = .ok (.tuple #[]) (putI w b o (9 * n) fun _ => 0) := by
  obtain ⟨i, h1, h2, h3, h4⟩ := sam_parts
  have hst := run_storeCells_cells (P := Try.prog) b o (il (9 * n) fun _ => 0) 0 w (fun j hj => by
      rw [il_len] at hj
      rw [Nat.add_zero, hB.cell, rowA_get _ (by omega)]; rfl) (fun j _ => hB.free _) (il_one _ _)
  have hz : (Builtin.zeroCells (Value.agg (rowA 9 fun _ => 0)).cells n).toList = il (9 * n) fun _ => 0 := by
    rw [zeroCells_row, rowA_list]; rfl
  obtain ⟨k, rfl⟩ : ∃ k, n = k + 1 := ⟨n - 1, by omega⟩
  simp [Builtin.clear_, run_underlying Try.underlying61, zeroValue, typeInfo, h1, h2, hz, hst, putI]
section
variable {P : Program}
theorem step_copyR {ops : Array Oper} {o : Oper} {a : Act} {w : World} {K : Act → World → Prop} {Q : Exit → Act → World → Prop} {E : Prop}
    (hg : o.guard = none) (d x : Operand) (dT sT : TypeId) (hop : o.op = Op.call { callee := Callee.builtin Builtin.copy, args := #[d, x], argTypes := #[dT, sT] })
    (v u : Value) (hd : a.eval d = v) (hx : a.eval x = u) {v' : Value} {w' : World} (hr : (Builtin.copy_ #[dT, sT] o.type #[v, u]).run P w = .ok v' w') (hK : K (a.put o.dst v') w') :
    if Region.wanted o (yielded ops a.tmps) = true then Oper.wp P o a w K Q else E := by
  have hw : Region.wanted o (yielded ops a.tmps) = true := by simp [Region.wanted, hg]
  rw [if_pos hw]
  unfold Oper.wp
  simp [execOp, hop, resolve, invoke, builtin, hd, hx, hr, Result.andThen]
  exact hK
theorem list_copyR (w : World) {ops : Array Oper} {rest : List Oper} {o : Oper} {a : Act} {Q : Exit → Act → World → Prop} (hgd : o.guard = none) (d s : Operand) (t t' : TypeId)
    (ho : o.op = .call { callee := .builtin .copy, args := #[d, s], argTypes := #[t, t'] }) (v u : Value) (hd : a.eval d = v) (hs : a.eval s = u) {v' : Value} {w' : World}
    (hr : (Builtin.copy_ #[t, t'] o.type #[v, u]).run P w = .ok v' w') (h : wpList P ops Q rest (a.put o.dst v') w') : wpList P ops Q (o :: rest) a w :=
  wpList_plain hgd fun K hK => by
    unfold Oper.wp execOp
    simp only [ho, resolve, invoke, builtin, Sem.run_bind, Sem.run_pure, Result.andThen_ok, List.map_toArray, List.map_cons, List.map_nil, hd, hs, hr]
    exact hK _ _ h
theorem list_clearR (w : World) {ops : Array Oper} {rest : List Oper} {o : Oper} {a : Act} {Q : Exit → Act → World → Prop} (hgd : o.guard = none) (d : Operand) (t : TypeId)
    (ho : o.op = .call { callee := .builtin .clear, args := #[d], argTypes := #[t] }) (v : Value) (hd : a.eval d = v) {v' : Value} {w' : World}
    (hr : (Builtin.clear_ #[t] o.type #[v]).run P w = .ok v' w') (h : wpList P ops Q rest (a.put o.dst v') w') : wpList P ops Q (o :: rest) a w :=
  wpList_plain hgd fun K hK => by
    unfold Oper.wp execOp
    simp only [ho, resolve, invoke, builtin, Sem.run_bind, Sem.run_pure, Result.andThen_ok, List.map_toArray, List.map_cons, List.map_nil, hd, hr]
    exact hK _ _ h
theorem step_appR {ops : Array Oper} {o : Oper} {a : Act} {w : World} {K : Act → World → Prop} {Q : Exit → Act → World → Prop} {E : Prop}
    (hg : o.guard = none) (d x : Operand) (dT sT : TypeId) (hop : o.op = Op.call { callee := Callee.builtin Builtin.append, args := #[d, x], argTypes := #[dT, sT] })
    (v u : Value) (hd : a.eval d = v) (hx : a.eval x = u) {v' : Value} {w' : World} (hr : (Builtin.append_ #[dT, sT] o.type #[v, u]).run P w = .ok v' w') (hK : K (a.put o.dst v') w') :
    if Region.wanted o (yielded ops a.tmps) = true then Oper.wp P o a w K Q else E := by
  have hw : Region.wanted o (yielded ops a.tmps) = true := by simp [Region.wanted, hg]
  rw [if_pos hw]
  unfold Oper.wp
  simp [execOp, hop, resolve, invoke, builtin, hd, hx, hr, Result.andThen]
  exact hK
theorem list_appR (w : World) {ops : Array Oper} {rest : List Oper} {o : Oper} {a : Act} {Q : Exit → Act → World → Prop} (hgd : o.guard = none) (d s : Operand) (t t' : TypeId)
    (ho : o.op = .call { callee := .builtin .append, args := #[d, s], argTypes := #[t, t'] }) (v u : Value) (hd : a.eval d = v) (hs : a.eval s = u) {v' : Value} {w' : World}
    (hr : (Builtin.append_ #[t, t'] o.type #[v, u]).run P w = .ok v' w') (h : wpList P ops Q rest (a.put o.dst v') w') : wpList P ops Q (o :: rest) a w :=
  wpList_plain hgd fun K hK => by
    unfold Oper.wp execOp
    simp only [ho, resolve, invoke, builtin, Sem.run_bind, Sem.run_pure, Result.andThen_ok, List.map_toArray, List.map_cons, List.map_nil, hd, hs, hr]
    exact hK _ _ h
end
end Go.Proofs.Ytdndomknjefgkaa.Rg
