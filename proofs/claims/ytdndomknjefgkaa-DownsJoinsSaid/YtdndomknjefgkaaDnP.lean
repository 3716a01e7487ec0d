/- Slices of inertial samples: what joins. -/
import Derived.Test.YtdndomknjefgkaaDnM
import Derived.Test.YtdndomknjefgkaaRgL
namespace Go.Proofs.Ytdndomknjefgkaa.Rg
open Go.RowKit
theorem samInfo8 : (Try.prog.info? 32).map (fun i => (i.zero, i.size, i.bytes)) = some (some (.agg (rowA 8 fun _ => 0)), 8, 64) := by kernel_rfl
theorem zero_cells8 : (Value.agg (rowA 8 fun _ => 0)).cells = rowA 8 fun _ => 0 := by simp [Value.cells]
theorem zeroCells_row8 (k : Nat) : Builtin.zeroCells (Value.agg (rowA 8 fun _ => 0)).cells k = rowA (8 * k) fun _ => 0 := by
  rw [zero_cells8]
  refine Array.ext_getElem? fun i => ?_
  unfold Builtin.zeroCells
  by_cases h : i < 8 * k
  · rw [rowA_get _ h]
    have h9 : i % 8 < 8 := by omega
    have hg := rowA_get (n := 8) (fun _ => 0) h9
    simp [rowA_size, show i < k * 8 by omega]
    rw [getElem!_def, hg]
  · rw [rowA_none _ (by omega)]
    simp [rowA_size]; omega
/-- A new row: what it was, what joins, noughts. -/
theorem grown_row8 (n m k c : Nat) (f g : Nat → Int) (hc : c = n + m + 8 * k) :
    (il n f ++ il m g).toArray ++ Builtin.zeroCells (Value.agg (rowA 8 fun _ => 0)).cells k = rowA c fun q => if q < n then f q else if q < n + m then g (q - n) else 0 := by
  subst hc
  rw [zeroCells_row8]
  refine Array.ext_getElem? fun i => ?_
  rw [Array.getElem?_append]
  simp only [List.size_toArray, List.length_append, il_len, List.getElem?_toArray, List.getElem?_append]
  by_cases h1 : i < n
  · rw [if_pos (by omega), if_pos h1, il_get f h1, rowA_get _ (by omega), if_pos h1]
  · by_cases h2 : i < n + m
    · rw [if_pos h2, if_neg h1, il_get g (by omega), rowA_get _ (by omega), if_neg h1, if_pos h2]
    · rw [if_neg h2]
      by_cases h3 : i < n + m + 8 * k
      · rw [rowA_get _ (by omega), rowA_get _ h3, if_neg h1, if_neg h2]
      · rw [rowA_none _ (by omega), rowA_none _ (by omega)]
theorem sam_parts8 : ∃ i, Try.prog.info? 32 = some i ∧ i.zero = some (.agg (rowA 8 fun _ => 0)) ∧ i.size = 8 ∧ i.bytes = 64 := info_parts samInfo8
theorem old_none8 (w : World) (c : Nat) (f : Nat → Int) : (Builtin.firstCells 8 0 (.slice none 0 c)).run Try.prog w = .ok (il (0 * 8) f).toArray w := by
  rw [run_firstCells_none]; rfl
theorem old_some8 {w : World} {a ao n : Nat} (c : Nat) {f : Nat → Int} (h : Ints w a ao (n * 8) f) : (Builtin.firstCells 8 n (.slice (some ⟨a, ao, none⟩) n c)).run Try.prog w = .ok (il (n * 8) f).toArray w :=
  run_firstCells_some w 8 n ⟨a, ao, none⟩ n c _ (il_len _ _) (il_src h)
/-- Samples join where there is no room. -/
theorem app_grow8 (w : World) (ty : TypeId) (base : Option Addr) (n cap m c a ao : Nat) (f g : Nat → Int) (hold : (Builtin.firstCells 8 n (.slice base n cap)).run Try.prog w.drew = .ok (il (n * 8) f).toArray w.drew)
    (hg : Ints w a ao (m * 8) g) (hc : cap < n + m) (hs : n + m < 1000000) : ∃ C, n + m ≤ C ∧ C ≤ maxLen ∧
    (Builtin.append_ #[39, 39] ty #[.slice base n cap, .slice (some ⟨a, ao, none⟩) m c]).run Try.prog w =
      .ok (.slice (some ⟨w.heap.size, 0, none⟩) (n + m) C) (w.drew.alloc (.cells (rowA (8 * C) fun q => if q < n * 8 then f q else if q < n * 8 + m * 8 then g (q - n * 8) else 0) 32)) := by
  obtain ⟨i, h1, h2, h3, h4⟩ := sam_parts8
  refine ⟨grownCap w (n + m) cap 32, grownCap_ge w (n + m) cap _, grownCap_le_maxLen w (n + m) cap _ (by unfold maxLen; omega), ?_⟩
  have hge := grownCap_ge w (n + m) cap 32
  rw [← grown_row8 (n * 8) (m * 8) (grownCap w (n + m) cap 32 - (n + m)) _ f g (by omega)]
  refine run_append_grow_src w _ _ ty _ i _ Try.underlying39 h1 h2 base n cap (il (n * 8) f) (by rw [h3]; exact hold) _ m (il (m * 8) g) ?_ hc (by omega) (by
    rw [h4]; exact growslice_fits hc (by omega))
  rw [h3]
  exact Src.ofSlice w Try.underlying39 _ _ _ _ (il_len _ _) (il_src hg) (il_one _ _)
/-- .. where there is. -/
theorem app_room8 (w : World) (ty : TypeId) (b n cap m c a ao : Nat) (g F : Nat → Int) (hB : Blk w b (rowA (8 * cap) F) 32)
    (hg : Ints w a ao (m * 8) g) (hc : n + m ≤ cap) :
    (Builtin.append_ #[39, 39] ty #[.slice (some ⟨b, 0, none⟩) n cap, .slice (some ⟨a, ao, none⟩) m c]).run Try.prog w =
      .ok (.slice (some ⟨b, 0, none⟩) (n + m) cap) (putI w b (n * 8) (m * 8) g) := by
  obtain ⟨i, h1, h2, h3, h4⟩ := sam_parts8
  have h := run_append_room_src (P := Try.prog) w 39 39 ty 32 i Try.underlying39 h1 b 0 n cap (.slice (some ⟨a, ao, none⟩) m c) m (il (m * 8) g)
    (by rw [h3]; exact Src.ofSlice w Try.underlying39 _ _ _ _ (il_len _ _) (il_src hg) (il_one _ _)) hc
    (fun j hj => by rw [il_len] at hj; rw [h3, hB.cell, rowA_get _ (by omega)]; rfl) (fun j _ => hB.free _)
  rw [h, h3, Nat.zero_add]; rfl
/-- Nothing joins. -/
theorem app_nothing8 (w : World) (ty : TypeId) (base : Option Addr) (n cap c : Nat) (a : Option Addr) (hc : n ≤ cap) :
    (Builtin.append_ #[39, 39] ty #[.slice base n cap, .slice a 0 c]).run Try.prog w = .ok (.slice base n cap) w := by
  obtain ⟨i, h1, h2, h3, h4⟩ := sam_parts8
  have hl : ∀ (x : Addr), (loadCells x 0).run Try.prog w = .ok #[] w := fun x => by simpa using run_loadCells_list (P := Try.prog) w x [] (by simp)
  cases base <;> cases a <;> simp [Builtin.append_, run_underlying Try.underlying39, sizeOf, typeInfo, h1, h3, Builtin.lenOf, hc, Builtin.firstCells, hl, storeCells]
/-- A slice of samples: nothing, or the head of a block. -/
inductive IRow (w : World) : Value → List Sam → Prop
  | nil : IRow w (.slice none 0 0) []
  | lies (g cap : Nat) (F : Nat → Int) (l : List Sam) : Blk w g (rowA (8 * cap) F) 32 → l.length ≤ cap → cap ≤ maxLen → (∀ q, q < 8 * l.length → F q = flk 8 l q) → IRow w (.slice (some ⟨g, 0, none⟩) l.length cap) l
theorem IRow.inv {w : World} {v : Value} {l : List Sam} (h : IRow w v l) : (v = .slice none 0 0 ∧ l = []) ∨ ∃ g cap F, v = .slice (some ⟨g, 0, none⟩) l.length cap ∧ Blk w g (rowA (8 * cap) F) 32 ∧ l.length ≤ cap ∧ cap ≤ maxLen ∧ ∀ q, q < 8 * l.length → F q = flk 8 l q := by
  cases h with
  | nil => exact .inl ⟨rfl, rfl⟩
  | lies g cap F l hb hc hm hF => exact .inr ⟨g, cap, F, rfl, hb, hc, hm, hF⟩
theorem IRow.lt {w : World} {v : Value} {l : List Sam} (h : IRow w v l) : ∀ b, b ∈ own v → b < w.heap.size := by
  cases h with
  | nil => intro b hb; simp [own] at hb
  | lies g cap F l hb _ _ _ => intro b hm; simp [own] at hm; subst hm; exact hb.lt
theorem IRow.keep {S : List Nat} {w w' : World} {v : Value} {l : List Sam} (h : IRow w v l) (k : Tch S w w') (hd : ∀ b, b ∈ own v → b ∉ S) : IRow w' v l := by
  cases h with
  | nil => exact .nil
  | lies g cap F l hb hc hm hF => exact .lies g cap F l (k.blk hb (hd g (by simp [own]))) hc hm hF
theorem IRow.cap_ints {w : World} {g cap : Nat} {F : Nat → Int} {l : List Sam} (hB : Blk w g (rowA (8 * cap) F) 32) (hc : l.length ≤ cap) (hF : ∀ q, q < 8 * l.length → F q = flk 8 l q) {i n : Nat} (h : i + n ≤ l.length) : Ints w g (i * 8) (n * 8) (fun q => flk 8 l (i * 8 + q)) :=
  ⟨fun j hj => by rw [hB.cell, rowA_get _ (by omega), hF _ (by omega)]⟩
theorem row_is8 {w : World} {g C n : Nat} {F : Nat → Int} {l : List Sam} (hB : Blk w g (rowA (8 * C) F) 32) (hl : l.length = n) (hc : n ≤ C) (hm : C ≤ maxLen) (hF : ∀ q, q < 8 * n → F q = flk 8 l q) : IRow w (.slice (some ⟨g, 0, none⟩) n C) l := by
  subst hl
  exact .lies g C F l hB hc hm hF
theorem IRow.shape {w : World} {v : Value} {l : List Sam} (h : IRow w v l) : ∃ a c, v = .slice a l.length c ∧ l.length ≤ c := by
  cases h with
  | nil => exact ⟨_, _, rfl, Nat.le_refl _⟩
  | lies g cap F l hB hc hcm hF => exact ⟨_, _, rfl, hc⟩
theorem fl_app8 (l m : List Sam) (q : Nat) : flk 8 (l ++ m) q = if q < 8 * l.length then flk 8 l q else flk 8 m (q - 8 * l.length) := by
  unfold flk
  by_cases h : q < 8 * l.length
  · rw [if_pos h]
    simp only [List.getD_eq_getElem?_getD]
    rw [List.getElem?_append_left (by omega)]
  · rw [if_neg h, show (q - 8 * l.length) % 8 = q % 8 by omega, show (q - 8 * l.length) / 8 = q / 8 - l.length by omega]
    simp only [List.getD_eq_getElem?_getD]
    rw [List.getElem?_append_right (by omega)]
/-- Samples join a slice of one's own. -/
theorem app_any8 (w : World) (ty : TypeId) (v : Value) (l m : List Sam) (a : Option Addr) (c : Nat) (hv : IRow w v l) (hm : m = [] ∨ ∃ g o, a = some ⟨g, o, none⟩ ∧ Ints w g o (8 * m.length) (flk 8 m)) (hs : l.length + m.length < 1000) :
    ∃ a2 c2 W, (Builtin.append_ #[39, 39] ty #[v, .slice a m.length c]).run Try.prog w = .ok (.slice a2 (l ++ m).length c2) W ∧ IRow W (.slice a2 (l ++ m).length c2) (l ++ m) ∧ Tch (own v) w W ∧ ∀ q, q ∈ own (.slice a2 (l ++ m).length c2) → q ∈ own v ∨ w.heap.size ≤ q := by
  rcases hm with rfl | ⟨g, o, rfl, hi⟩
  · obtain ⟨a2, c2, rfl, hc⟩ := hv.shape
    rw [List.append_nil]
    exact ⟨a2, c2, w, app_nothing8 w ty a2 _ c2 c a hc, hv, Tch.refl _ _, fun q hq => .inl hq⟩
  · have hi2 : Ints w g o (m.length * 8) (flk 8 m) := by rw [Nat.mul_comm]; exact hi
    have hlen : (l ++ m).length = l.length + m.length := by simp
    rw [hlen]
    have fin : ∀ (n : Nat) (C : Nat) (W : World) (gg : Nat) (G : Nat → Int), Blk W gg (rowA (8 * C) G) 32 → l.length + m.length ≤ C → C ≤ maxLen → (∀ q, q < 8 * (l.length + m.length) → G q = if q < l.length * 8 then flk 8 l q else flk 8 m (q - l.length * 8)) →
        IRow W (.slice (some ⟨gg, 0, none⟩) (l.length + m.length) C) (l ++ m) := fun n C W gg G h1 h2 h3 h4 =>
      row_is8 h1 hlen h2 h3 fun q hq => by rw [h4 q hq, fl_app8, Nat.mul_comm 8]
    rcases hv.inv with ⟨h1, h2⟩ | ⟨b, cap, F, h1, hB, hc, hcm, hF⟩
    · subst h1 h2
      rcases Nat.eq_zero_or_pos m.length with h0 | h0
      · have : m = [] := List.eq_nil_of_length_eq_zero h0
        subst this
        exact ⟨none, 0, w, app_nothing8 w ty none 0 0 c _ (Nat.le_refl _), .nil, Tch.refl _ _, fun q hq => .inl hq⟩
      · obtain ⟨C, hC1, hC2, hr⟩ := app_grow8 w ty none 0 0 m.length c g o (fun _ => 0) (flk 8 m) (old_none8 _ _ _) hi2 (by omega) (by omega)
        simp only [Nat.zero_add, Nat.zero_mul, Nat.not_lt_zero, if_false, Nat.sub_zero] at hr hC1
        refine ⟨_, C, _, by simpa using hr, fin 0 C _ _ _ (Blk.made _ _ _ rfl) (by simpa using hC1) hC2 (fun q hq => ?_), (Tch.refl _ _).drew.alloc _, fun q hq => .inr (by simp [own] at hq; omega)⟩
        simp at hq ⊢
        intro h; omega
    · subst h1
      have hS := IRow.cap_ints hB hc hF (i := 0) (n := l.length) (by omega)
      have hS : Ints w b 0 (l.length * 8) (flk 8 l) := by simpa using hS
      rcases Nat.lt_or_ge cap (l.length + m.length) with h0 | h0
      · obtain ⟨C, hC1, hC2, hr⟩ := app_grow8 w ty (some ⟨b, 0, none⟩) l.length cap m.length c g o (flk 8 l) (flk 8 m) (old_some8 _ hS.drew) hi2 h0 (by omega)
        refine ⟨_, C, _, hr, fin 0 C _ _ _ (Blk.made _ _ _ rfl) hC1 hC2 (fun q hq => ?_), (Tch.refl _ _).drew.alloc _, fun q hq => .inr (by simp [own] at hq; omega)⟩
        by_cases h : q < l.length * 8
        · rw [if_pos h, if_pos h]
        · rw [if_neg h, if_neg h, if_pos (by omega)]
      · have hr := app_room8 w ty b l.length cap m.length c g o (flk 8 m) F hB hi2 h0
        refine ⟨_, cap, _, hr, fin 0 cap _ _ _ (putI_blk hB (by omega)) h0 hcm (fun q hq => ?_), (Tch.refl _ _).putI (.inl (by simp [own])) _ _ _, fun q hq => .inl hq⟩
        by_cases h : q < l.length * 8
        · rw [if_neg (by omega), if_pos h, hF q (by omega)]
        · rw [if_pos (by omega), if_neg h]
theorem run_one8 (f : Nat → Int) (w : World) : (Instr.buildSlice 39 1 #[(0, .agg (rowA 8 f))]).run Try.prog w = .ok (.slice (some ⟨w.heap.size, 0, none⟩) 1 1) (w.alloc (.cells (rowA 8 f) 32)) := by
  have hz : (Array.range (1 * 8)).map (fun x => (rowA 8 fun _ => 0)[x % (rowA 8 fun _ => 0).size]!) = rowA 8 fun _ => 0 := by
    rw [rowA_size]
    refine Array.ext_getElem? fun i => ?_
    by_cases hi : i < 8
    · rw [rowA_get _ hi]
      have hg := rowA_get (n := 8) (fun _ => 0) (show i % 8 < 8 by omega)
      simp [hi, getElem!_def, hg]
    · rw [rowA_none _ (by omega)]; simp; omega
  have hf : Instr.fill (fun i => some (i * 8, 8)) (rowA 8 fun _ => 0) [(0, .agg (rowA 8 f))] = some (rowA 8 f) := by
    rw [fill_row (N := 8) (n := 8) _ f (Nat.le_refl _) _ rfl]
    exact congrArg some (rowA_congr fun k hk => if_pos hk)
  have hsz : (sizeOf 32).run Try.prog w = .ok 8 w := by kernel_rfl
  have hzv : (zeroValue 32).run Try.prog w = .ok (.agg (rowA 8 fun _ => 0)) w := by kernel_rfl
  unfold Instr.buildSlice
  rw [Sem.run_bind, run_underlying Try.underlying39]
  simp only [Result.andThen_ok]
  rw [Sem.run_bind, hsz]
  simp only [Result.andThen_ok]
  rw [if_neg (by decide), if_neg (by decide)]
  simp only [Sem.run_bind, Sem.run_pure, Result.andThen_ok, hzv, zero_cells8, hz, hf]
  simp [newRow]
end Go.Proofs.Ytdndomknjefgkaa.Rg
