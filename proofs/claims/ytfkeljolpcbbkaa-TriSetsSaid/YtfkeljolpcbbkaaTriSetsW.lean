/- The walk of TriSets. -/
import Derived.Test.YtfkeljolpcbbkaaTriAn
import Derived.Test.YtfkeljolpcbbkaaQuiS
import Derived.Test.YtfkeljolpcbbkaaNumSets
namespace Go.Proofs.Ytfkeljolpcbbkaa.triSets
open Go.RowKit
theorem awake_any (w : World) : Calls Try.prog 82 #[] w fun e w' => e = .returned (.bool true) ∧ Below w.heap.size w w' := awaken_any w
theorem rowDFlat : SX.flatOk Try.prog 91 = some (List.replicate 24 true) := by kernel_rfl
abbrev zU (f : Nat → Int) : Nat → Int := fun k => if k < 276 then 0 else f k
theorem builtD (f : Nat → Int) : Try.prog.built 93 [(1, .agg (rowA 24 fun k => f (276 + k)))] = some (rowA 300 (zU f)) := by kernel_rfl
theorem build_one {P : Program} {ops : Array Oper} {rest : List Oper} {o : Oper} {a : Act} {w : World} {Q : Exit → Act → World → Prop} (hgd : o.guard = none) (t : TypeId) (k : Nat) (x : Operand) (ho : o.op = .build t #[(k, x)]) (v : Value) (hx : a.eval x = v) (n : Nat) (g : Nat → Int) (hb : P.built t [(k, v)] = some (rowA n g))
    (h : wpList P ops Q rest (a.put o.dst (.agg (rowA n g))) w) : wpList P ops Q (o :: rest) a w := by
  refine wpList_build hgd t _ ho ?_ ?_
  · simp [hx, hb]
  · simpa [hx, hb] using h
abbrev Good (f : Nat → Int) (i j v x y : Int) (w : World) : Prop :=
  Calls Try.prog 10 #[.agg (rowA 300 f), .int .i64 i, .int .i64 j, .int .i64 v, .int .i64 x, .int .i64 y] w fun e w' => e = .returned (.bool true) ∧ Below w.heap.size w w'
def act6 (f g : Nat → Int) (i j v x y : Int) (u : Nat → Value) (q p : Nat) (a42 a43 a44 a45 a46 a47 a48 a49 a50 a51 a52 a53 a54 a55 a56 a57 a58 a59 a60 a61 a62 a63 a64 a65 a66 a67 : Value) : Act := ⟨⟨.agg (rowA 300 f) :: .int .i64 i :: .int .i64 j :: .int .i64 v :: .int .i64 x :: .int .i64 y :: .pointer (some ⟨p, 0, none⟩) :: undef :: undef :: undef :: undef :: undef :: .bool false :: .pointer (some ⟨q, 0, none⟩) :: undef :: undef :: .bool true :: .bool false :: .agg (rowA 300 f) :: .int .i64 i :: .int .i64 j :: .int .i64 v :: .agg (rowA 300 g) :: u 23 :: u 24 :: u 25 :: u 26 :: u 27 :: u 28 :: u 29 :: u 30 :: u 31 :: u 32 :: u 33 :: u 34 :: u 35 :: u 36 :: u 37 :: u 38 :: u 39 :: u 40 :: .bool false :: a42 :: a43 :: a44 :: a45 :: a46 :: a47 :: a48 :: a49 :: a50 :: a51 :: a52 :: a53 :: a54 :: a55 :: a56 :: a57 :: a58 :: a59 :: a60 :: a61 :: a62 :: a63 :: a64 :: a65 :: a66 :: a67 :: undef :: undef :: undef :: undef :: undef :: undef :: undef :: undef :: undef :: undef :: undef :: undef :: undef :: undef :: undef :: undef :: undef :: undef :: undef :: undef :: undef :: undef :: undef :: undef :: undef :: undef :: undef :: undef :: undef :: undef :: undef :: undef :: undef :: undef :: undef :: undef :: undef :: undef :: undef :: undef :: undef :: undef :: undef :: undef :: undef :: undef :: undef :: undef :: undef :: []⟩, []⟩
set_option maxRecDepth 10000 in
set_option maxHeartbeats 8000000 in
theorem walk_core (f g : Nat → Int) (i j v x y : Int) (w : World)
    (hs : Hid (∀ w, Calls Try.prog 92 #[.agg (rowA 300 f), .int .i64 i, .int .i64 j, .int .i64 v] w fun e w' => e = .returned (.agg (rowA 300 g)) ∧ Below w.heap.size w w'))
    (h1 : Hid (aboveB i j = true → uF g i j = v)) (h2 : Hid (x ≠ i ∨ y ≠ j → uF g x y = uF f x y)) (h3 : Hid (∀ k, k < 24 → g (276 + k) = f (276 + k))) : Good f i j v x y w := by
  unfold Good
  go_enter Try.func10, Try.ntmps10
  go_wp2_with fail
  generalize hW : World.alloc w _ = W
  have hb : Below w.heap.size w W := by subst hW; exact (Below.refl _ _).alloc (Nat.le_refl _) _
  have hB : Blk W w.heap.size (rowA 300 f) 93 := by subst hW; exact Blk.made _ _ _ rfl
  clear hW
  refine (awake_any W).mono ?_
  rintro e w1 ⟨rfl, hb1⟩
  have hB1 := hB.call hb1
  have hb2 := hb.trans (hb1.mono hb.size)
  clear hB hb hb1
  go_wp2_with ((with_reducible refine row_load 93 (.tmp 6) ?_ ?_ w.heap.size 300 f 93 ?_ hB1 _ Try.underlying93 ?_ covSize ?_); rfl; rfl; rfl; rfl)
  refine (hs.out _).mono ?_
  rintro e w2 ⟨rfl, hb3⟩
  have hB2 := hB1.call hb3
  have hb4 := hb2.trans (hb3.mono hb2.size)
  clear hB1 hb2 hb3
  go_upto_region 4 with (first
    | (rw [zeroCov]; (with_reducible refine row_store 93 (.tmp 13) (.tmp 22) ?_ ?_ w2.heap.size 300 g (fun _ => 0) 93 ?_ ?_ ?_ covSize ?_); rfl; rfl; rfl; rfl; exact Blk.made _ _ _ rfl))
  have hs2 := hb4.size
  have hlt := hB2.lt
  have hp3 : Blk ((w2.alloc (.cells (rowA 300 fun _ => 0) 93)).setRow w2.heap.size (rowA 300 g)) w.heap.size (rowA 300 f) 93 := (hB2.alloc _).otherRow (by omega)
  have hq3 : Blk ((w2.alloc (.cells (rowA 300 fun _ => 0) 93)).setRow w2.heap.size (rowA 300 g)) w2.heap.size (rowA 300 g) 93 := (Blk.made _ _ _ rfl).setRow
  have hb5 : Below w.heap.size w ((w2.alloc (.cells (rowA 300 fun _ => 0) 93)).setRow w2.heap.size (rowA 300 g)) := below_setRow (hb4.alloc hs2 _) hs2 _
  have hne : w.heap.size ≠ w2.heap.size := by omega
  clear hB2 hb4 hs2 hlt
  generalize World.setRow _ _ _ = W3 at *
  generalize w2.heap.size = q at *
  dsimp only [Act.put]
  refine wp_join [23, 24, 25, 26, 27, 28, 29, 30, 31, 32, 33, 34, 35, 36, 37, 38, 39, 40, 41] (fun w' u => Blk w' q (rowA 300 g) 93 ∧ Blk w' w.heap.size (rowA 300 f) 93 ∧ Below w.heap.size w w' ∧ u 41 = .bool false) (fun u => ⟨#[.agg (rowA 300 f), .int .i64 i, .int .i64 j, .int .i64 v, .int .i64 x, .int .i64 y, .pointer (some ⟨w.heap.size, 0, none⟩), undef, undef, undef, undef, undef, .bool false, .pointer (some ⟨q, 0, none⟩), undef, undef, .bool true, .bool false, .agg (rowA 300 f), .int .i64 i, .int .i64 j, .int .i64 v, .agg (rowA 300 g), u 23, u 24, u 25, u 26, u 27, u 28, u 29, u 30, u 31, u 32, u 33, u 34, u 35, u 36, u 37, u 38, u 39, u 40, u 41, undef, undef, undef, undef, undef, undef, undef, undef, undef, undef, undef, undef, undef, undef, undef, undef, undef, undef, undef, undef, undef, undef, undef, undef, undef, undef, undef, undef, undef, undef, undef, undef, undef, undef, undef, undef, undef, undef, undef, undef, undef, undef, undef, undef, undef, undef, undef, undef, undef, undef, undef, undef, undef, undef, undef, undef, undef, undef, undef, undef, undef, undef, undef, undef, undef, undef, undef, undef, undef, undef, undef, undef, undef, undef, undef], []⟩) (fun u => by kernel_rfl) ?_ ?_
  · by_cases hi : 0 ≤ i
    · by_cases hij : i < j
      · by_cases hj : j < 24
        · have hu := h1.out ((aboveB_iff i j).2 ⟨hi, hij, hj⟩)
          have hvv : (v != v) = false := by simp
          go_wp2_with fail
          refine row_wp 93 (.tmp 13) rfl q 300 g 93 rfl hq3 _ Try.underlying93 rfl covSize ?_
          go_wp2_with fail
          refine (triU_any g i j _).mono ?_
          rintro e w4 ⟨rfl, hb6⟩
          rw [hu]
          have hq4 := hq3.call hb6
          have hp4 := hp3.call hb6
          have hb7 := hb5.trans (hb6.mono hb5.size)
          clear hq3 hp3 hb5 hb6
          go_wp2_with fail
          exact ⟨rfl, by kernel_rfl, hq4, hp4, hb7, rfl⟩
        · go_wp2_with fail
          exact ⟨rfl, by kernel_rfl, hq3, hp3, hb5, rfl⟩
      · go_wp2_with fail
        exact ⟨rfl, by kernel_rfl, hq3, hp3, hb5, rfl⟩
    · go_wp2_with fail
      exact ⟨rfl, by kernel_rfl, hq3, hp3, hb5, rfl⟩
  · clear hp3 hq3 hb5
    rintro w4 u ⟨hq4, hp4, hb6, hu⟩
    dsimp only
    rw [hu]
    go_upto_region 6 with (fail)
    refine wp_join [42, 43, 44, 45, 46, 47, 48, 49, 50, 51, 52, 53, 54, 55, 56, 57, 58, 59, 60, 61, 62, 63, 64, 65, 66, 67] (fun w' t => Blk w' q (rowA 300 g) 93 ∧ Blk w' w.heap.size (rowA 300 f) 93 ∧ Below w.heap.size w w' ∧ t 67 = .bool false) (fun t => ⟨#[.agg (rowA 300 f), .int .i64 i, .int .i64 j, .int .i64 v, .int .i64 x, .int .i64 y, .pointer (some ⟨w.heap.size, 0, none⟩), undef, undef, undef, undef, undef, .bool false, .pointer (some ⟨q, 0, none⟩), undef, undef, .bool true, .bool false, .agg (rowA 300 f), .int .i64 i, .int .i64 j, .int .i64 v, .agg (rowA 300 g), u 23, u 24, u 25, u 26, u 27, u 28, u 29, u 30, u 31, u 32, u 33, u 34, u 35, u 36, u 37, u 38, u 39, u 40, .bool false, t 42, t 43, t 44, t 45, t 46, t 47, t 48, t 49, t 50, t 51, t 52, t 53, t 54, t 55, t 56, t 57, t 58, t 59, t 60, t 61, t 62, t 63, t 64, t 65, t 66, t 67, undef, undef, undef, undef, undef, undef, undef, undef, undef, undef, undef, undef, undef, undef, undef, undef, undef, undef, undef, undef, undef, undef, undef, undef, undef, undef, undef, undef, undef, undef, undef, undef, undef, undef, undef, undef, undef, undef, undef, undef, undef, undef, undef, undef, undef, undef, undef, undef, undef], []⟩) (fun t => by kernel_rfl) ?_ ?_
    · have hE : (!eqB 24 (fun k => g (276 + k)) (fun k => f (276 + k))) = false := by rw [eqB_of (fun k hk => h3.out k hk)]; rfl
      refine region_cq (fun w' => Blk w' q (rowA 300 g) 93 ∧ Blk w' w.heap.size (rowA 300 f) 93 ∧ Below w.heap.size w w') (by kernel_rfl) (by kernel_rfl) ⟨hq4.drew, hp4.drew, hb6.drew⟩ ?_
      refine cq_as (b := act6 f g i j v x y u q w.heap.size undef undef undef undef undef undef undef undef undef undef undef undef undef undef undef undef undef undef undef undef undef undef undef undef undef undef) (by kernel_rfl) ?_
      by_cases hx : x = i
      · have e1 : (x != i) = false := by simp [hx]
        by_cases hy : y = j
        · have e2 : (y != j) = false := by simp [hy]
          refine cq_pure (.int .i64 x) (by kernel_rfl) (fun w => by kernel_rfl) ?_
          refine cq_as (b := act6 f g i j v x y u q w.heap.size (.int .i64 x) undef undef undef undef undef undef undef undef undef undef undef undef undef undef undef undef undef undef undef undef undef undef undef undef undef) (by kernel_rfl) ?_
          refine cq_pure (.int .i64 i) (by kernel_rfl) (fun w => by kernel_rfl) ?_
          refine cq_as (b := act6 f g i j v x y u q w.heap.size (.int .i64 x) (.int .i64 i) undef undef undef undef undef undef undef undef undef undef undef undef undef undef undef undef undef undef undef undef undef undef undef undef) (by kernel_rfl) ?_
          refine cq_pure (.bool false) (by kernel_rfl) (fun w => Eq.trans (b := .ok (.value (.bool (x != i))) w) (by kernel_rfl) (by rw [e1])) ?_
          refine cq_as (b := act6 f g i j v x y u q w.heap.size (.int .i64 x) (.int .i64 i) (.bool false) undef undef undef undef undef undef undef undef undef undef undef undef undef undef undef undef undef undef undef undef undef undef undef) (by kernel_rfl) ?_
          refine cq_pure (.bool false) (by kernel_rfl) (fun w => by kernel_rfl) ?_
          refine cq_as (b := act6 f g i j v x y u q w.heap.size (.int .i64 x) (.int .i64 i) (.bool false) (.bool false) undef undef undef undef undef undef undef undef undef undef undef undef undef undef undef undef undef undef undef undef undef undef) (by kernel_rfl) ?_
          refine cq_pure (.int .i64 y) (by kernel_rfl) (fun w => by kernel_rfl) ?_
          refine cq_as (b := act6 f g i j v x y u q w.heap.size (.int .i64 x) (.int .i64 i) (.bool false) (.bool false) (.int .i64 y) undef undef undef undef undef undef undef undef undef undef undef undef undef undef undef undef undef undef undef undef undef) (by kernel_rfl) ?_
          refine cq_pure (.int .i64 j) (by kernel_rfl) (fun w => by kernel_rfl) ?_
          refine cq_as (b := act6 f g i j v x y u q w.heap.size (.int .i64 x) (.int .i64 i) (.bool false) (.bool false) (.int .i64 y) (.int .i64 j) undef undef undef undef undef undef undef undef undef undef undef undef undef undef undef undef undef undef undef undef) (by kernel_rfl) ?_
          refine cq_pure (.bool false) (by kernel_rfl) (fun w => Eq.trans (b := .ok (.value (.bool (y != j))) w) (by kernel_rfl) (by rw [e2])) ?_
          refine cq_as (b := act6 f g i j v x y u q w.heap.size (.int .i64 x) (.int .i64 i) (.bool false) (.bool false) (.int .i64 y) (.int .i64 j) (.bool false) undef undef undef undef undef undef undef undef undef undef undef undef undef undef undef undef undef undef undef) (by kernel_rfl) ?_
          refine cq_pure (.bool false) (by kernel_rfl) (fun w => by kernel_rfl) ?_
          refine cq_as (b := act6 f g i j v x y u q w.heap.size (.int .i64 x) (.int .i64 i) (.bool false) (.bool false) (.int .i64 y) (.int .i64 j) (.bool false) (.bool false) undef undef undef undef undef undef undef undef undef undef undef undef undef undef undef undef undef undef) (by kernel_rfl) ?_
          refine cq_pure (.bool false) (by kernel_rfl) (fun w => by kernel_rfl) ?_
          refine cq_as (b := act6 f g i j v x y u q w.heap.size (.int .i64 x) (.int .i64 i) (.bool false) (.bool false) (.int .i64 y) (.int .i64 j) (.bool false) (.bool false) (.bool false) undef undef undef undef undef undef undef undef undef undef undef undef undef undef undef undef undef) (by kernel_rfl) ?_
          refine cq_skip (by kernel_rfl) ?_
          refine cq_as (b := act6 f g i j v x y u q w.heap.size (.int .i64 x) (.int .i64 i) (.bool false) (.bool false) (.int .i64 y) (.int .i64 j) (.bool false) (.bool false) (.bool false) undef undef undef undef undef undef undef undef undef undef undef undef undef undef undef undef undef) (by kernel_rfl) ?_
          refine cq_skip (by kernel_rfl) ?_
          refine cq_as (b := act6 f g i j v x y u q w.heap.size (.int .i64 x) (.int .i64 i) (.bool false) (.bool false) (.int .i64 y) (.int .i64 j) (.bool false) (.bool false) (.bool false) undef undef undef undef undef undef undef undef undef undef undef undef undef undef undef undef undef) (by kernel_rfl) ?_
          refine cq_skip (by kernel_rfl) ?_
          refine cq_as (b := act6 f g i j v x y u q w.heap.size (.int .i64 x) (.int .i64 i) (.bool false) (.bool false) (.int .i64 y) (.int .i64 j) (.bool false) (.bool false) (.bool false) undef undef undef undef undef undef undef undef undef undef undef undef undef undef undef undef undef) (by kernel_rfl) ?_
          refine cq_skip (by kernel_rfl) ?_
          refine cq_as (b := act6 f g i j v x y u q w.heap.size (.int .i64 x) (.int .i64 i) (.bool false) (.bool false) (.int .i64 y) (.int .i64 j) (.bool false) (.bool false) (.bool false) undef undef undef undef undef undef undef undef undef undef undef undef undef undef undef undef undef) (by kernel_rfl) ?_
          refine cq_skip (by kernel_rfl) ?_
          refine cq_as (b := act6 f g i j v x y u q w.heap.size (.int .i64 x) (.int .i64 i) (.bool false) (.bool false) (.int .i64 y) (.int .i64 j) (.bool false) (.bool false) (.bool false) undef undef undef undef undef undef undef undef undef undef undef undef undef undef undef undef undef) (by kernel_rfl) ?_
          refine cq_skip (by kernel_rfl) ?_
          refine cq_as (b := act6 f g i j v x y u q w.heap.size (.int .i64 x) (.int .i64 i) (.bool false) (.bool false) (.int .i64 y) (.int .i64 j) (.bool false) (.bool false) (.bool false) undef undef undef undef undef undef undef undef undef undef undef undef undef undef undef undef undef) (by kernel_rfl) ?_
          refine cq_skip (by kernel_rfl) ?_
          refine cq_as (b := act6 f g i j v x y u q w.heap.size (.int .i64 x) (.int .i64 i) (.bool false) (.bool false) (.int .i64 y) (.int .i64 j) (.bool false) (.bool false) (.bool false) undef undef undef undef undef undef undef undef undef undef undef undef undef undef undef undef undef) (by kernel_rfl) ?_
          refine cq_skip (by kernel_rfl) ?_
          refine cq_as (b := act6 f g i j v x y u q w.heap.size (.int .i64 x) (.int .i64 i) (.bool false) (.bool false) (.int .i64 y) (.int .i64 j) (.bool false) (.bool false) (.bool false) undef undef undef undef undef undef undef undef undef undef undef undef undef undef undef undef undef) (by kernel_rfl) ?_
          refine cq_skip (by kernel_rfl) ?_
          refine cq_as (b := act6 f g i j v x y u q w.heap.size (.int .i64 x) (.int .i64 i) (.bool false) (.bool false) (.int .i64 y) (.int .i64 j) (.bool false) (.bool false) (.bool false) undef undef undef undef undef undef undef undef undef undef undef undef undef undef undef undef undef) (by kernel_rfl) ?_
          refine cq_pure (.bool false) (by kernel_rfl) (fun w => by kernel_rfl) ?_
          refine cq_as (b := act6 f g i j v x y u q w.heap.size (.int .i64 x) (.int .i64 i) (.bool false) (.bool false) (.int .i64 y) (.int .i64 j) (.bool false) (.bool false) (.bool false) undef undef undef undef undef undef undef undef undef (.bool false) undef undef undef undef undef undef undef) (by kernel_rfl) ?_
          refine cq_pure (.bool false) (by kernel_rfl) (fun w => by kernel_rfl) ?_
          refine cq_as (b := act6 f g i j v x y u q w.heap.size (.int .i64 x) (.int .i64 i) (.bool false) (.bool false) (.int .i64 y) (.int .i64 j) (.bool false) (.bool false) (.bool false) undef undef undef undef undef undef undef undef undef (.bool false) (.bool false) undef undef undef undef undef undef) (by kernel_rfl) ?_
          refine cq_pure (.pointer (some ⟨q, 276, none⟩)) (by kernel_rfl) (fun w => by kernel_rfl) ?_
          refine cq_as (b := act6 f g i j v x y u q w.heap.size (.int .i64 x) (.int .i64 i) (.bool false) (.bool false) (.int .i64 y) (.int .i64 j) (.bool false) (.bool false) (.bool false) undef undef undef undef undef undef undef undef undef (.bool false) (.bool false) (.pointer (some ⟨q, 276, none⟩)) undef undef undef undef undef) (by kernel_rfl) ?_
          refine cq_mid 91 (.tmp 62) q 276 24 (fun k => g (276 + k)) _ (by kernel_rfl) rfl (by kernel_rfl) (fun w h => h.1.ints.part 276 24 (by omega)) Try.underlying91 rfl rowDSize ?_
          refine cq_as (b := act6 f g i j v x y u q w.heap.size (.int .i64 x) (.int .i64 i) (.bool false) (.bool false) (.int .i64 y) (.int .i64 j) (.bool false) (.bool false) (.bool false) undef undef undef undef undef undef undef undef undef (.bool false) (.bool false) (.pointer (some ⟨q, 276, none⟩)) (.agg (rowA 24 (fun k => g (276 + k)))) undef undef undef undef) (by kernel_rfl) ?_
          refine cq_pure (.pointer (some ⟨w.heap.size, 276, none⟩)) (by kernel_rfl) (fun w => by kernel_rfl) ?_
          refine cq_as (b := act6 f g i j v x y u q w.heap.size (.int .i64 x) (.int .i64 i) (.bool false) (.bool false) (.int .i64 y) (.int .i64 j) (.bool false) (.bool false) (.bool false) undef undef undef undef undef undef undef undef undef (.bool false) (.bool false) (.pointer (some ⟨q, 276, none⟩)) (.agg (rowA 24 (fun k => g (276 + k)))) (.pointer (some ⟨w.heap.size, 276, none⟩)) undef undef undef) (by kernel_rfl) ?_
          refine cq_mid 91 (.tmp 64) w.heap.size 276 24 (fun k => f (276 + k)) _ (by kernel_rfl) rfl (by kernel_rfl) (fun w h => h.2.1.ints.part 276 24 (by omega)) Try.underlying91 rfl rowDSize ?_
          refine cq_as (b := act6 f g i j v x y u q w.heap.size (.int .i64 x) (.int .i64 i) (.bool false) (.bool false) (.int .i64 y) (.int .i64 j) (.bool false) (.bool false) (.bool false) undef undef undef undef undef undef undef undef undef (.bool false) (.bool false) (.pointer (some ⟨q, 276, none⟩)) (.agg (rowA 24 (fun k => g (276 + k)))) (.pointer (some ⟨w.heap.size, 276, none⟩)) (.agg (rowA 24 (fun k => f (276 + k)))) undef undef) (by kernel_rfl) ?_
          refine cq_neq 91 (.tmp 63) (.tmp 65) _ 24 (fun k => g (276 + k)) (fun k => f (276 + k)) rowDFlat (by kernel_rfl) rfl (by kernel_rfl) (by kernel_rfl) ?_
          rw [hE]
          refine cq_as (b := act6 f g i j v x y u q w.heap.size (.int .i64 x) (.int .i64 i) (.bool false) (.bool false) (.int .i64 y) (.int .i64 j) (.bool false) (.bool false) (.bool false) undef undef undef undef undef undef undef undef undef (.bool false) (.bool false) (.pointer (some ⟨q, 276, none⟩)) (.agg (rowA 24 (fun k => g (276 + k)))) (.pointer (some ⟨w.heap.size, 276, none⟩)) (.agg (rowA 24 (fun k => f (276 + k)))) (.bool false) undef) (by kernel_rfl) ?_
          refine cq_pure (.bool false) (by kernel_rfl) (fun w => by kernel_rfl) ?_
          refine cq_as (b := act6 f g i j v x y u q w.heap.size (.int .i64 x) (.int .i64 i) (.bool false) (.bool false) (.int .i64 y) (.int .i64 j) (.bool false) (.bool false) (.bool false) undef undef undef undef undef undef undef undef undef (.bool false) (.bool false) (.pointer (some ⟨q, 276, none⟩)) (.agg (rowA 24 (fun k => g (276 + k)))) (.pointer (some ⟨w.heap.size, 276, none⟩)) (.agg (rowA 24 (fun k => f (276 + k)))) (.bool false) (.bool false)) (by kernel_rfl) ?_
          refine cq_nil ?_
          rintro w5 ⟨hq5, hp5, hb7⟩
          exact ⟨rfl, by kernel_rfl, hq5, hp5, hb7, rfl⟩
        · have e2 : (y != j) = true := by simp [hy]
          have e3 : (uF g x y != uF f x y) = false := by rw [h2.out (.inr hy)]; simp
          refine cq_pure (.int .i64 x) (by kernel_rfl) (fun w => by kernel_rfl) ?_
          refine cq_as (b := act6 f g i j v x y u q w.heap.size (.int .i64 x) undef undef undef undef undef undef undef undef undef undef undef undef undef undef undef undef undef undef undef undef undef undef undef undef undef) (by kernel_rfl) ?_
          refine cq_pure (.int .i64 i) (by kernel_rfl) (fun w => by kernel_rfl) ?_
          refine cq_as (b := act6 f g i j v x y u q w.heap.size (.int .i64 x) (.int .i64 i) undef undef undef undef undef undef undef undef undef undef undef undef undef undef undef undef undef undef undef undef undef undef undef undef) (by kernel_rfl) ?_
          refine cq_pure (.bool false) (by kernel_rfl) (fun w => Eq.trans (b := .ok (.value (.bool (x != i))) w) (by kernel_rfl) (by rw [e1])) ?_
          refine cq_as (b := act6 f g i j v x y u q w.heap.size (.int .i64 x) (.int .i64 i) (.bool false) undef undef undef undef undef undef undef undef undef undef undef undef undef undef undef undef undef undef undef undef undef undef undef) (by kernel_rfl) ?_
          refine cq_pure (.bool false) (by kernel_rfl) (fun w => by kernel_rfl) ?_
          refine cq_as (b := act6 f g i j v x y u q w.heap.size (.int .i64 x) (.int .i64 i) (.bool false) (.bool false) undef undef undef undef undef undef undef undef undef undef undef undef undef undef undef undef undef undef undef undef undef undef) (by kernel_rfl) ?_
          refine cq_pure (.int .i64 y) (by kernel_rfl) (fun w => by kernel_rfl) ?_
          refine cq_as (b := act6 f g i j v x y u q w.heap.size (.int .i64 x) (.int .i64 i) (.bool false) (.bool false) (.int .i64 y) undef undef undef undef undef undef undef undef undef undef undef undef undef undef undef undef undef undef undef undef undef) (by kernel_rfl) ?_
          refine cq_pure (.int .i64 j) (by kernel_rfl) (fun w => by kernel_rfl) ?_
          refine cq_as (b := act6 f g i j v x y u q w.heap.size (.int .i64 x) (.int .i64 i) (.bool false) (.bool false) (.int .i64 y) (.int .i64 j) undef undef undef undef undef undef undef undef undef undef undef undef undef undef undef undef undef undef undef undef) (by kernel_rfl) ?_
          refine cq_pure (.bool true) (by kernel_rfl) (fun w => Eq.trans (b := .ok (.value (.bool (y != j))) w) (by kernel_rfl) (by rw [e2])) ?_
          refine cq_as (b := act6 f g i j v x y u q w.heap.size (.int .i64 x) (.int .i64 i) (.bool false) (.bool false) (.int .i64 y) (.int .i64 j) (.bool true) undef undef undef undef undef undef undef undef undef undef undef undef undef undef undef undef undef undef undef) (by kernel_rfl) ?_
          refine cq_pure (.bool true) (by kernel_rfl) (fun w => by kernel_rfl) ?_
          refine cq_as (b := act6 f g i j v x y u q w.heap.size (.int .i64 x) (.int .i64 i) (.bool false) (.bool false) (.int .i64 y) (.int .i64 j) (.bool true) (.bool true) undef undef undef undef undef undef undef undef undef undef undef undef undef undef undef undef undef undef) (by kernel_rfl) ?_
          refine cq_pure (.bool true) (by kernel_rfl) (fun w => by kernel_rfl) ?_
          refine cq_as (b := act6 f g i j v x y u q w.heap.size (.int .i64 x) (.int .i64 i) (.bool false) (.bool false) (.int .i64 y) (.int .i64 j) (.bool true) (.bool true) (.bool true) undef undef undef undef undef undef undef undef undef undef undef undef undef undef undef undef undef) (by kernel_rfl) ?_
          refine cq_row 93 (.tmp 13) q 300 g 93 _ (by kernel_rfl) rfl (by kernel_rfl) (fun w h => h.1) Try.underlying93 rfl covSize ?_
          refine cq_as (b := act6 f g i j v x y u q w.heap.size (.int .i64 x) (.int .i64 i) (.bool false) (.bool false) (.int .i64 y) (.int .i64 j) (.bool true) (.bool true) (.bool true) (.agg (rowA 300 g)) undef undef undef undef undef undef undef undef undef undef undef undef undef undef undef undef) (by kernel_rfl) ?_
          refine cq_pure (.int .i64 x) (by kernel_rfl) (fun w => by kernel_rfl) ?_
          refine cq_as (b := act6 f g i j v x y u q w.heap.size (.int .i64 x) (.int .i64 i) (.bool false) (.bool false) (.int .i64 y) (.int .i64 j) (.bool true) (.bool true) (.bool true) (.agg (rowA 300 g)) (.int .i64 x) undef undef undef undef undef undef undef undef undef undef undef undef undef undef undef) (by kernel_rfl) ?_
          refine cq_pure (.int .i64 y) (by kernel_rfl) (fun w => by kernel_rfl) ?_
          refine cq_as (b := act6 f g i j v x y u q w.heap.size (.int .i64 x) (.int .i64 i) (.bool false) (.bool false) (.int .i64 y) (.int .i64 j) (.bool true) (.bool true) (.bool true) (.agg (rowA 300 g)) (.int .i64 x) (.int .i64 y) undef undef undef undef undef undef undef undef undef undef undef undef undef undef) (by kernel_rfl) ?_
          refine cq_call (.int .i64 (uF g x y)) 85 #[.agg (rowA 300 g), .int .i64 x, .int .i64 y] (by kernel_rfl) (fun w => by kernel_rfl) (fun w h => (triU_any g x y w).mono (by rintro e w' ⟨rfl, hb⟩; exact ⟨rfl, h.1.call hb, h.2.1.call hb, h.2.2.trans (hb.mono h.2.2.size)⟩)) ?_
          refine cq_as (b := act6 f g i j v x y u q w.heap.size (.int .i64 x) (.int .i64 i) (.bool false) (.bool false) (.int .i64 y) (.int .i64 j) (.bool true) (.bool true) (.bool true) (.agg (rowA 300 g)) (.int .i64 x) (.int .i64 y) (.int .i64 (uF g x y)) undef undef undef undef undef undef undef undef undef undef undef undef undef) (by kernel_rfl) ?_
          refine cq_row 93 (.tmp 6) w.heap.size 300 f 93 _ (by kernel_rfl) rfl (by kernel_rfl) (fun w h => h.2.1) Try.underlying93 rfl covSize ?_
          refine cq_as (b := act6 f g i j v x y u q w.heap.size (.int .i64 x) (.int .i64 i) (.bool false) (.bool false) (.int .i64 y) (.int .i64 j) (.bool true) (.bool true) (.bool true) (.agg (rowA 300 g)) (.int .i64 x) (.int .i64 y) (.int .i64 (uF g x y)) (.agg (rowA 300 f)) undef undef undef undef undef undef undef undef undef undef undef undef) (by kernel_rfl) ?_
          refine cq_pure (.int .i64 x) (by kernel_rfl) (fun w => by kernel_rfl) ?_
          refine cq_as (b := act6 f g i j v x y u q w.heap.size (.int .i64 x) (.int .i64 i) (.bool false) (.bool false) (.int .i64 y) (.int .i64 j) (.bool true) (.bool true) (.bool true) (.agg (rowA 300 g)) (.int .i64 x) (.int .i64 y) (.int .i64 (uF g x y)) (.agg (rowA 300 f)) (.int .i64 x) undef undef undef undef undef undef undef undef undef undef undef) (by kernel_rfl) ?_
          refine cq_pure (.int .i64 y) (by kernel_rfl) (fun w => by kernel_rfl) ?_
          refine cq_as (b := act6 f g i j v x y u q w.heap.size (.int .i64 x) (.int .i64 i) (.bool false) (.bool false) (.int .i64 y) (.int .i64 j) (.bool true) (.bool true) (.bool true) (.agg (rowA 300 g)) (.int .i64 x) (.int .i64 y) (.int .i64 (uF g x y)) (.agg (rowA 300 f)) (.int .i64 x) (.int .i64 y) undef undef undef undef undef undef undef undef undef undef) (by kernel_rfl) ?_
          refine cq_call (.int .i64 (uF f x y)) 85 #[.agg (rowA 300 f), .int .i64 x, .int .i64 y] (by kernel_rfl) (fun w => by kernel_rfl) (fun w h => (triU_any f x y w).mono (by rintro e w' ⟨rfl, hb⟩; exact ⟨rfl, h.1.call hb, h.2.1.call hb, h.2.2.trans (hb.mono h.2.2.size)⟩)) ?_
          refine cq_as (b := act6 f g i j v x y u q w.heap.size (.int .i64 x) (.int .i64 i) (.bool false) (.bool false) (.int .i64 y) (.int .i64 j) (.bool true) (.bool true) (.bool true) (.agg (rowA 300 g)) (.int .i64 x) (.int .i64 y) (.int .i64 (uF g x y)) (.agg (rowA 300 f)) (.int .i64 x) (.int .i64 y) (.int .i64 (uF f x y)) undef undef undef undef undef undef undef undef undef) (by kernel_rfl) ?_
          refine cq_pure (.bool false) (by kernel_rfl) (fun w => Eq.trans (b := .ok (.value (.bool (uF g x y != uF f x y))) w) (by kernel_rfl) (by rw [e3])) ?_
          refine cq_as (b := act6 f g i j v x y u q w.heap.size (.int .i64 x) (.int .i64 i) (.bool false) (.bool false) (.int .i64 y) (.int .i64 j) (.bool true) (.bool true) (.bool true) (.agg (rowA 300 g)) (.int .i64 x) (.int .i64 y) (.int .i64 (uF g x y)) (.agg (rowA 300 f)) (.int .i64 x) (.int .i64 y) (.int .i64 (uF f x y)) (.bool false) undef undef undef undef undef undef undef undef) (by kernel_rfl) ?_
          refine cq_pure (.bool false) (by kernel_rfl) (fun w => by kernel_rfl) ?_
          refine cq_as (b := act6 f g i j v x y u q w.heap.size (.int .i64 x) (.int .i64 i) (.bool false) (.bool false) (.int .i64 y) (.int .i64 j) (.bool true) (.bool true) (.bool true) (.agg (rowA 300 g)) (.int .i64 x) (.int .i64 y) (.int .i64 (uF g x y)) (.agg (rowA 300 f)) (.int .i64 x) (.int .i64 y) (.int .i64 (uF f x y)) (.bool false) (.bool false) undef undef undef undef undef undef undef) (by kernel_rfl) ?_
          refine cq_pure (.bool false) (by kernel_rfl) (fun w => by kernel_rfl) ?_
          refine cq_as (b := act6 f g i j v x y u q w.heap.size (.int .i64 x) (.int .i64 i) (.bool false) (.bool false) (.int .i64 y) (.int .i64 j) (.bool true) (.bool true) (.bool true) (.agg (rowA 300 g)) (.int .i64 x) (.int .i64 y) (.int .i64 (uF g x y)) (.agg (rowA 300 f)) (.int .i64 x) (.int .i64 y) (.int .i64 (uF f x y)) (.bool false) (.bool false) (.bool false) undef undef undef undef undef undef) (by kernel_rfl) ?_
          refine cq_pure (.pointer (some ⟨q, 276, none⟩)) (by kernel_rfl) (fun w => by kernel_rfl) ?_
          refine cq_as (b := act6 f g i j v x y u q w.heap.size (.int .i64 x) (.int .i64 i) (.bool false) (.bool false) (.int .i64 y) (.int .i64 j) (.bool true) (.bool true) (.bool true) (.agg (rowA 300 g)) (.int .i64 x) (.int .i64 y) (.int .i64 (uF g x y)) (.agg (rowA 300 f)) (.int .i64 x) (.int .i64 y) (.int .i64 (uF f x y)) (.bool false) (.bool false) (.bool false) (.pointer (some ⟨q, 276, none⟩)) undef undef undef undef undef) (by kernel_rfl) ?_
          refine cq_mid 91 (.tmp 62) q 276 24 (fun k => g (276 + k)) _ (by kernel_rfl) rfl (by kernel_rfl) (fun w h => h.1.ints.part 276 24 (by omega)) Try.underlying91 rfl rowDSize ?_
          refine cq_as (b := act6 f g i j v x y u q w.heap.size (.int .i64 x) (.int .i64 i) (.bool false) (.bool false) (.int .i64 y) (.int .i64 j) (.bool true) (.bool true) (.bool true) (.agg (rowA 300 g)) (.int .i64 x) (.int .i64 y) (.int .i64 (uF g x y)) (.agg (rowA 300 f)) (.int .i64 x) (.int .i64 y) (.int .i64 (uF f x y)) (.bool false) (.bool false) (.bool false) (.pointer (some ⟨q, 276, none⟩)) (.agg (rowA 24 (fun k => g (276 + k)))) undef undef undef undef) (by kernel_rfl) ?_
          refine cq_pure (.pointer (some ⟨w.heap.size, 276, none⟩)) (by kernel_rfl) (fun w => by kernel_rfl) ?_
          refine cq_as (b := act6 f g i j v x y u q w.heap.size (.int .i64 x) (.int .i64 i) (.bool false) (.bool false) (.int .i64 y) (.int .i64 j) (.bool true) (.bool true) (.bool true) (.agg (rowA 300 g)) (.int .i64 x) (.int .i64 y) (.int .i64 (uF g x y)) (.agg (rowA 300 f)) (.int .i64 x) (.int .i64 y) (.int .i64 (uF f x y)) (.bool false) (.bool false) (.bool false) (.pointer (some ⟨q, 276, none⟩)) (.agg (rowA 24 (fun k => g (276 + k)))) (.pointer (some ⟨w.heap.size, 276, none⟩)) undef undef undef) (by kernel_rfl) ?_
          refine cq_mid 91 (.tmp 64) w.heap.size 276 24 (fun k => f (276 + k)) _ (by kernel_rfl) rfl (by kernel_rfl) (fun w h => h.2.1.ints.part 276 24 (by omega)) Try.underlying91 rfl rowDSize ?_
          refine cq_as (b := act6 f g i j v x y u q w.heap.size (.int .i64 x) (.int .i64 i) (.bool false) (.bool false) (.int .i64 y) (.int .i64 j) (.bool true) (.bool true) (.bool true) (.agg (rowA 300 g)) (.int .i64 x) (.int .i64 y) (.int .i64 (uF g x y)) (.agg (rowA 300 f)) (.int .i64 x) (.int .i64 y) (.int .i64 (uF f x y)) (.bool false) (.bool false) (.bool false) (.pointer (some ⟨q, 276, none⟩)) (.agg (rowA 24 (fun k => g (276 + k)))) (.pointer (some ⟨w.heap.size, 276, none⟩)) (.agg (rowA 24 (fun k => f (276 + k)))) undef undef) (by kernel_rfl) ?_
          refine cq_neq 91 (.tmp 63) (.tmp 65) _ 24 (fun k => g (276 + k)) (fun k => f (276 + k)) rowDFlat (by kernel_rfl) rfl (by kernel_rfl) (by kernel_rfl) ?_
          rw [hE]
          refine cq_as (b := act6 f g i j v x y u q w.heap.size (.int .i64 x) (.int .i64 i) (.bool false) (.bool false) (.int .i64 y) (.int .i64 j) (.bool true) (.bool true) (.bool true) (.agg (rowA 300 g)) (.int .i64 x) (.int .i64 y) (.int .i64 (uF g x y)) (.agg (rowA 300 f)) (.int .i64 x) (.int .i64 y) (.int .i64 (uF f x y)) (.bool false) (.bool false) (.bool false) (.pointer (some ⟨q, 276, none⟩)) (.agg (rowA 24 (fun k => g (276 + k)))) (.pointer (some ⟨w.heap.size, 276, none⟩)) (.agg (rowA 24 (fun k => f (276 + k)))) (.bool false) undef) (by kernel_rfl) ?_
          refine cq_pure (.bool false) (by kernel_rfl) (fun w => by kernel_rfl) ?_
          refine cq_as (b := act6 f g i j v x y u q w.heap.size (.int .i64 x) (.int .i64 i) (.bool false) (.bool false) (.int .i64 y) (.int .i64 j) (.bool true) (.bool true) (.bool true) (.agg (rowA 300 g)) (.int .i64 x) (.int .i64 y) (.int .i64 (uF g x y)) (.agg (rowA 300 f)) (.int .i64 x) (.int .i64 y) (.int .i64 (uF f x y)) (.bool false) (.bool false) (.bool false) (.pointer (some ⟨q, 276, none⟩)) (.agg (rowA 24 (fun k => g (276 + k)))) (.pointer (some ⟨w.heap.size, 276, none⟩)) (.agg (rowA 24 (fun k => f (276 + k)))) (.bool false) (.bool false)) (by kernel_rfl) ?_
          refine cq_nil ?_
          rintro w5 ⟨hq5, hp5, hb7⟩
          exact ⟨rfl, by kernel_rfl, hq5, hp5, hb7, rfl⟩
      · have e1 : (x != i) = true := by simp [hx]
        have e3 : (uF g x y != uF f x y) = false := by rw [h2.out (.inl hx)]; simp
        refine cq_pure (.int .i64 x) (by kernel_rfl) (fun w => by kernel_rfl) ?_
        refine cq_as (b := act6 f g i j v x y u q w.heap.size (.int .i64 x) undef undef undef undef undef undef undef undef undef undef undef undef undef undef undef undef undef undef undef undef undef undef undef undef undef) (by kernel_rfl) ?_
        refine cq_pure (.int .i64 i) (by kernel_rfl) (fun w => by kernel_rfl) ?_
        refine cq_as (b := act6 f g i j v x y u q w.heap.size (.int .i64 x) (.int .i64 i) undef undef undef undef undef undef undef undef undef undef undef undef undef undef undef undef undef undef undef undef undef undef undef undef) (by kernel_rfl) ?_
        refine cq_pure (.bool true) (by kernel_rfl) (fun w => Eq.trans (b := .ok (.value (.bool (x != i))) w) (by kernel_rfl) (by rw [e1])) ?_
        refine cq_as (b := act6 f g i j v x y u q w.heap.size (.int .i64 x) (.int .i64 i) (.bool true) undef undef undef undef undef undef undef undef undef undef undef undef undef undef undef undef undef undef undef undef undef undef undef) (by kernel_rfl) ?_
        refine cq_pure (.bool true) (by kernel_rfl) (fun w => by kernel_rfl) ?_
        refine cq_as (b := act6 f g i j v x y u q w.heap.size (.int .i64 x) (.int .i64 i) (.bool true) (.bool true) undef undef undef undef undef undef undef undef undef undef undef undef undef undef undef undef undef undef undef undef undef undef) (by kernel_rfl) ?_
        refine cq_skip (by kernel_rfl) ?_
        refine cq_as (b := act6 f g i j v x y u q w.heap.size (.int .i64 x) (.int .i64 i) (.bool true) (.bool true) undef undef undef undef undef undef undef undef undef undef undef undef undef undef undef undef undef undef undef undef undef undef) (by kernel_rfl) ?_
        refine cq_skip (by kernel_rfl) ?_
        refine cq_as (b := act6 f g i j v x y u q w.heap.size (.int .i64 x) (.int .i64 i) (.bool true) (.bool true) undef undef undef undef undef undef undef undef undef undef undef undef undef undef undef undef undef undef undef undef undef undef) (by kernel_rfl) ?_
        refine cq_skip (by kernel_rfl) ?_
        refine cq_as (b := act6 f g i j v x y u q w.heap.size (.int .i64 x) (.int .i64 i) (.bool true) (.bool true) undef undef undef undef undef undef undef undef undef undef undef undef undef undef undef undef undef undef undef undef undef undef) (by kernel_rfl) ?_
        refine cq_pure (.bool true) (by kernel_rfl) (fun w => by kernel_rfl) ?_
        refine cq_as (b := act6 f g i j v x y u q w.heap.size (.int .i64 x) (.int .i64 i) (.bool true) (.bool true) undef undef undef (.bool true) undef undef undef undef undef undef undef undef undef undef undef undef undef undef undef undef undef undef) (by kernel_rfl) ?_
        refine cq_pure (.bool true) (by kernel_rfl) (fun w => by kernel_rfl) ?_
        refine cq_as (b := act6 f g i j v x y u q w.heap.size (.int .i64 x) (.int .i64 i) (.bool true) (.bool true) undef undef undef (.bool true) (.bool true) undef undef undef undef undef undef undef undef undef undef undef undef undef undef undef undef undef) (by kernel_rfl) ?_
        refine cq_row 93 (.tmp 13) q 300 g 93 _ (by kernel_rfl) rfl (by kernel_rfl) (fun w h => h.1) Try.underlying93 rfl covSize ?_
        refine cq_as (b := act6 f g i j v x y u q w.heap.size (.int .i64 x) (.int .i64 i) (.bool true) (.bool true) undef undef undef (.bool true) (.bool true) (.agg (rowA 300 g)) undef undef undef undef undef undef undef undef undef undef undef undef undef undef undef undef) (by kernel_rfl) ?_
        refine cq_pure (.int .i64 x) (by kernel_rfl) (fun w => by kernel_rfl) ?_
        refine cq_as (b := act6 f g i j v x y u q w.heap.size (.int .i64 x) (.int .i64 i) (.bool true) (.bool true) undef undef undef (.bool true) (.bool true) (.agg (rowA 300 g)) (.int .i64 x) undef undef undef undef undef undef undef undef undef undef undef undef undef undef undef) (by kernel_rfl) ?_
        refine cq_pure (.int .i64 y) (by kernel_rfl) (fun w => by kernel_rfl) ?_
        refine cq_as (b := act6 f g i j v x y u q w.heap.size (.int .i64 x) (.int .i64 i) (.bool true) (.bool true) undef undef undef (.bool true) (.bool true) (.agg (rowA 300 g)) (.int .i64 x) (.int .i64 y) undef undef undef undef undef undef undef undef undef undef undef undef undef undef) (by kernel_rfl) ?_
        refine cq_call (.int .i64 (uF g x y)) 85 #[.agg (rowA 300 g), .int .i64 x, .int .i64 y] (by kernel_rfl) (fun w => by kernel_rfl) (fun w h => (triU_any g x y w).mono (by rintro e w' ⟨rfl, hb⟩; exact ⟨rfl, h.1.call hb, h.2.1.call hb, h.2.2.trans (hb.mono h.2.2.size)⟩)) ?_
        refine cq_as (b := act6 f g i j v x y u q w.heap.size (.int .i64 x) (.int .i64 i) (.bool true) (.bool true) undef undef undef (.bool true) (.bool true) (.agg (rowA 300 g)) (.int .i64 x) (.int .i64 y) (.int .i64 (uF g x y)) undef undef undef undef undef undef undef undef undef undef undef undef undef) (by kernel_rfl) ?_
        refine cq_row 93 (.tmp 6) w.heap.size 300 f 93 _ (by kernel_rfl) rfl (by kernel_rfl) (fun w h => h.2.1) Try.underlying93 rfl covSize ?_
        refine cq_as (b := act6 f g i j v x y u q w.heap.size (.int .i64 x) (.int .i64 i) (.bool true) (.bool true) undef undef undef (.bool true) (.bool true) (.agg (rowA 300 g)) (.int .i64 x) (.int .i64 y) (.int .i64 (uF g x y)) (.agg (rowA 300 f)) undef undef undef undef undef undef undef undef undef undef undef undef) (by kernel_rfl) ?_
        refine cq_pure (.int .i64 x) (by kernel_rfl) (fun w => by kernel_rfl) ?_
        refine cq_as (b := act6 f g i j v x y u q w.heap.size (.int .i64 x) (.int .i64 i) (.bool true) (.bool true) undef undef undef (.bool true) (.bool true) (.agg (rowA 300 g)) (.int .i64 x) (.int .i64 y) (.int .i64 (uF g x y)) (.agg (rowA 300 f)) (.int .i64 x) undef undef undef undef undef undef undef undef undef undef undef) (by kernel_rfl) ?_
        refine cq_pure (.int .i64 y) (by kernel_rfl) (fun w => by kernel_rfl) ?_
        refine cq_as (b := act6 f g i j v x y u q w.heap.size (.int .i64 x) (.int .i64 i) (.bool true) (.bool true) undef undef undef (.bool true) (.bool true) (.agg (rowA 300 g)) (.int .i64 x) (.int .i64 y) (.int .i64 (uF g x y)) (.agg (rowA 300 f)) (.int .i64 x) (.int .i64 y) undef undef undef undef undef undef undef undef undef undef) (by kernel_rfl) ?_
        refine cq_call (.int .i64 (uF f x y)) 85 #[.agg (rowA 300 f), .int .i64 x, .int .i64 y] (by kernel_rfl) (fun w => by kernel_rfl) (fun w h => (triU_any f x y w).mono (by rintro e w' ⟨rfl, hb⟩; exact ⟨rfl, h.1.call hb, h.2.1.call hb, h.2.2.trans (hb.mono h.2.2.size)⟩)) ?_
        refine cq_as (b := act6 f g i j v x y u q w.heap.size (.int .i64 x) (.int .i64 i) (.bool true) (.bool true) undef undef undef (.bool true) (.bool true) (.agg (rowA 300 g)) (.int .i64 x) (.int .i64 y) (.int .i64 (uF g x y)) (.agg (rowA 300 f)) (.int .i64 x) (.int .i64 y) (.int .i64 (uF f x y)) undef undef undef undef undef undef undef undef undef) (by kernel_rfl) ?_
        refine cq_pure (.bool false) (by kernel_rfl) (fun w => Eq.trans (b := .ok (.value (.bool (uF g x y != uF f x y))) w) (by kernel_rfl) (by rw [e3])) ?_
        refine cq_as (b := act6 f g i j v x y u q w.heap.size (.int .i64 x) (.int .i64 i) (.bool true) (.bool true) undef undef undef (.bool true) (.bool true) (.agg (rowA 300 g)) (.int .i64 x) (.int .i64 y) (.int .i64 (uF g x y)) (.agg (rowA 300 f)) (.int .i64 x) (.int .i64 y) (.int .i64 (uF f x y)) (.bool false) undef undef undef undef undef undef undef undef) (by kernel_rfl) ?_
        refine cq_pure (.bool false) (by kernel_rfl) (fun w => by kernel_rfl) ?_
        refine cq_as (b := act6 f g i j v x y u q w.heap.size (.int .i64 x) (.int .i64 i) (.bool true) (.bool true) undef undef undef (.bool true) (.bool true) (.agg (rowA 300 g)) (.int .i64 x) (.int .i64 y) (.int .i64 (uF g x y)) (.agg (rowA 300 f)) (.int .i64 x) (.int .i64 y) (.int .i64 (uF f x y)) (.bool false) (.bool false) undef undef undef undef undef undef undef) (by kernel_rfl) ?_
        refine cq_pure (.bool false) (by kernel_rfl) (fun w => by kernel_rfl) ?_
        refine cq_as (b := act6 f g i j v x y u q w.heap.size (.int .i64 x) (.int .i64 i) (.bool true) (.bool true) undef undef undef (.bool true) (.bool true) (.agg (rowA 300 g)) (.int .i64 x) (.int .i64 y) (.int .i64 (uF g x y)) (.agg (rowA 300 f)) (.int .i64 x) (.int .i64 y) (.int .i64 (uF f x y)) (.bool false) (.bool false) (.bool false) undef undef undef undef undef undef) (by kernel_rfl) ?_
        refine cq_pure (.pointer (some ⟨q, 276, none⟩)) (by kernel_rfl) (fun w => by kernel_rfl) ?_
        refine cq_as (b := act6 f g i j v x y u q w.heap.size (.int .i64 x) (.int .i64 i) (.bool true) (.bool true) undef undef undef (.bool true) (.bool true) (.agg (rowA 300 g)) (.int .i64 x) (.int .i64 y) (.int .i64 (uF g x y)) (.agg (rowA 300 f)) (.int .i64 x) (.int .i64 y) (.int .i64 (uF f x y)) (.bool false) (.bool false) (.bool false) (.pointer (some ⟨q, 276, none⟩)) undef undef undef undef undef) (by kernel_rfl) ?_
        refine cq_mid 91 (.tmp 62) q 276 24 (fun k => g (276 + k)) _ (by kernel_rfl) rfl (by kernel_rfl) (fun w h => h.1.ints.part 276 24 (by omega)) Try.underlying91 rfl rowDSize ?_
        refine cq_as (b := act6 f g i j v x y u q w.heap.size (.int .i64 x) (.int .i64 i) (.bool true) (.bool true) undef undef undef (.bool true) (.bool true) (.agg (rowA 300 g)) (.int .i64 x) (.int .i64 y) (.int .i64 (uF g x y)) (.agg (rowA 300 f)) (.int .i64 x) (.int .i64 y) (.int .i64 (uF f x y)) (.bool false) (.bool false) (.bool false) (.pointer (some ⟨q, 276, none⟩)) (.agg (rowA 24 (fun k => g (276 + k)))) undef undef undef undef) (by kernel_rfl) ?_
        refine cq_pure (.pointer (some ⟨w.heap.size, 276, none⟩)) (by kernel_rfl) (fun w => by kernel_rfl) ?_
        refine cq_as (b := act6 f g i j v x y u q w.heap.size (.int .i64 x) (.int .i64 i) (.bool true) (.bool true) undef undef undef (.bool true) (.bool true) (.agg (rowA 300 g)) (.int .i64 x) (.int .i64 y) (.int .i64 (uF g x y)) (.agg (rowA 300 f)) (.int .i64 x) (.int .i64 y) (.int .i64 (uF f x y)) (.bool false) (.bool false) (.bool false) (.pointer (some ⟨q, 276, none⟩)) (.agg (rowA 24 (fun k => g (276 + k)))) (.pointer (some ⟨w.heap.size, 276, none⟩)) undef undef undef) (by kernel_rfl) ?_
        refine cq_mid 91 (.tmp 64) w.heap.size 276 24 (fun k => f (276 + k)) _ (by kernel_rfl) rfl (by kernel_rfl) (fun w h => h.2.1.ints.part 276 24 (by omega)) Try.underlying91 rfl rowDSize ?_
        refine cq_as (b := act6 f g i j v x y u q w.heap.size (.int .i64 x) (.int .i64 i) (.bool true) (.bool true) undef undef undef (.bool true) (.bool true) (.agg (rowA 300 g)) (.int .i64 x) (.int .i64 y) (.int .i64 (uF g x y)) (.agg (rowA 300 f)) (.int .i64 x) (.int .i64 y) (.int .i64 (uF f x y)) (.bool false) (.bool false) (.bool false) (.pointer (some ⟨q, 276, none⟩)) (.agg (rowA 24 (fun k => g (276 + k)))) (.pointer (some ⟨w.heap.size, 276, none⟩)) (.agg (rowA 24 (fun k => f (276 + k)))) undef undef) (by kernel_rfl) ?_
        refine cq_neq 91 (.tmp 63) (.tmp 65) _ 24 (fun k => g (276 + k)) (fun k => f (276 + k)) rowDFlat (by kernel_rfl) rfl (by kernel_rfl) (by kernel_rfl) ?_
        rw [hE]
        refine cq_as (b := act6 f g i j v x y u q w.heap.size (.int .i64 x) (.int .i64 i) (.bool true) (.bool true) undef undef undef (.bool true) (.bool true) (.agg (rowA 300 g)) (.int .i64 x) (.int .i64 y) (.int .i64 (uF g x y)) (.agg (rowA 300 f)) (.int .i64 x) (.int .i64 y) (.int .i64 (uF f x y)) (.bool false) (.bool false) (.bool false) (.pointer (some ⟨q, 276, none⟩)) (.agg (rowA 24 (fun k => g (276 + k)))) (.pointer (some ⟨w.heap.size, 276, none⟩)) (.agg (rowA 24 (fun k => f (276 + k)))) (.bool false) undef) (by kernel_rfl) ?_
        refine cq_pure (.bool false) (by kernel_rfl) (fun w => by kernel_rfl) ?_
        refine cq_as (b := act6 f g i j v x y u q w.heap.size (.int .i64 x) (.int .i64 i) (.bool true) (.bool true) undef undef undef (.bool true) (.bool true) (.agg (rowA 300 g)) (.int .i64 x) (.int .i64 y) (.int .i64 (uF g x y)) (.agg (rowA 300 f)) (.int .i64 x) (.int .i64 y) (.int .i64 (uF f x y)) (.bool false) (.bool false) (.bool false) (.pointer (some ⟨q, 276, none⟩)) (.agg (rowA 24 (fun k => g (276 + k)))) (.pointer (some ⟨w.heap.size, 276, none⟩)) (.agg (rowA 24 (fun k => f (276 + k)))) (.bool false) (.bool false)) (by kernel_rfl) ?_
        refine cq_nil ?_
        rintro w5 ⟨hq5, hp5, hb7⟩
        exact ⟨rfl, by kernel_rfl, hq5, hp5, hb7, rfl⟩
    · clear hq4 hp4 hb6 hu hs h1 h2 h3
      rintro w5 t ⟨hq5, hp5, hb7, ht⟩
      dsimp only
      rw [ht]
      clear hq5
      have hp6 := hp5.alloc (.cells #[.bool false] 54)
      have hD := hp6.ints.part 276 24 (by omega)
      have hb8 := hb7.alloc hb7.size (.cells #[.bool false] 54)
      have hne5 : w.heap.size ≠ w5.heap.size := Nat.ne_of_lt hp5.lt
      have fl6 : Fl w5.heap.size 0 false (w5.alloc (.cells #[.bool false] 54)) := Fl.made _ _ _
      have hs5 := hb7.size
      clear hp5 hb7
      go_upto_region 8 with (fail)
      go_wp2_with (first
        | (refine mid_load 91 (.tmp 70) ?_ ?_ w.heap.size 276 24 (fun k => f (276 + k)) ?_ hD _ Try.underlying91 ?_ rowDSize ?_; rfl; rfl; rfl; rfl)
        | (refine build_one ?_ 93 1 (.tmp 71) ?_ (.agg (rowA 24 fun k => f (276 + k))) ?_ 300 (zU f) (builtD f) ?_; rfl; rfl; rfl))
      refine (condition_any w5.heap.size 0 (zU f) false _ fl6).mono ?_
      rintro e w6 ⟨rfl, k6⟩
      have hp7 := hp6.flag hne5 k6
      have hb9 := hb8.trans (k6.below hb8.size hs5)
      clear hp6 hD hb8 fl6 k6 hs5
      have HN := Lib.hid (NoU.cond (h := zU f) (fun k hk => if_pos hk))
      generalize condF (zU f) = h at *
      go_upto_region 9 with (refine row_store 93 (.tmp 6) (.tmp 73) ?_ ?_ w.heap.size 300 h f 93 ?_ ?_ hp7 covSize ?_; rfl; rfl; rfl; rfl)
      have hp8 : Blk (w6.setRow w.heap.size (rowA 300 h)) w.heap.size (rowA 300 h) 93 := hp7.setRow
      have hb10 := below_setRow hb9 (Nat.le_refl _) (rowA 300 h)
      clear hp7 hb9
      generalize World.setRow _ _ _ = w7 at *
      have fl7 : Fl w7.heap.size 0 false (w7.alloc (.cells #[.bool false] 54)) := Fl.made _ _ _
      have hs7 := hb10.size
      have hp9 := hp8.alloc (.cells #[.bool false] 54)
      have hb11 := hb10.alloc hs7 (.cells #[.bool false] 54)
      clear hp8 hb10
      by_cases h1 : x < 0
      · skip
        have ea := at_far (h := h) (x := x) (y := y) (by omega)
        have HA := at_any w7.heap.size 0 h x y false _ fl7
        rw [ea.1, ea.2] at HA
        simp only [Bool.or_false] at HA
        go_wp2_with (refine row_load 93 (.tmp 6) ?_ ?_ w.heap.size 300 h 93 ?_ hp9 _ Try.underlying93 ?_ covSize ?_; rfl; rfl; rfl; rfl)
        refine HA.mono ?_
        rintro e w8 ⟨rfl, k8⟩
        go_wp2_with fail
        go_ret
        exact ⟨rfl, hb11.trans (k8.below hb11.size hs7)⟩
      by_cases h2 : 23 < x
      · skip
        have ea := at_far (h := h) (x := x) (y := y) (by omega)
        have HA := at_any w7.heap.size 0 h x y false _ fl7
        rw [ea.1, ea.2] at HA
        simp only [Bool.or_false] at HA
        go_wp2_with (refine row_load 93 (.tmp 6) ?_ ?_ w.heap.size 300 h 93 ?_ hp9 _ Try.underlying93 ?_ covSize ?_; rfl; rfl; rfl; rfl)
        refine HA.mono ?_
        rintro e w8 ⟨rfl, k8⟩
        go_wp2_with fail
        go_ret
        exact ⟨rfl, hb11.trans (k8.below hb11.size hs7)⟩
      by_cases h3 : y < 0
      · skip
        have ea := at_far (h := h) (x := x) (y := y) (by omega)
        have HA := at_any w7.heap.size 0 h x y false _ fl7
        rw [ea.1, ea.2] at HA
        simp only [Bool.or_false] at HA
        go_wp2_with (refine row_load 93 (.tmp 6) ?_ ?_ w.heap.size 300 h 93 ?_ hp9 _ Try.underlying93 ?_ covSize ?_; rfl; rfl; rfl; rfl)
        refine HA.mono ?_
        rintro e w8 ⟨rfl, k8⟩
        go_wp2_with fail
        go_ret
        exact ⟨rfl, hb11.trans (k8.below hb11.size hs7)⟩
      by_cases h4 : 23 < y
      · skip
        have ea := at_far (h := h) (x := x) (y := y) (by omega)
        have HA := at_any w7.heap.size 0 h x y false _ fl7
        rw [ea.1, ea.2] at HA
        simp only [Bool.or_false] at HA
        go_wp2_with (refine row_load 93 (.tmp 6) ?_ ?_ w.heap.size 300 h 93 ?_ hp9 _ Try.underlying93 ?_ covSize ?_; rfl; rfl; rfl; rfl)
        refine HA.mono ?_
        rintro e w8 ⟨rfl, k8⟩
        go_wp2_with fail
        go_ret
        exact ⟨rfl, hb11.trans (k8.below hb11.size hs7)⟩
      obtain ⟨n, rfl⟩ := Int.eq_ofNat_of_zero_le (show 0 ≤ x by omega)
      obtain ⟨m, rfl⟩ := Int.eq_ofNat_of_zero_le (show 0 ≤ y by omega)
      have hn : n < 24 := by omega
      have hm : m < 24 := by omega
      have hat := at_none HN.out n m hn hm
      have HA := at_any w7.heap.size 0 h n m false _ fl7
      rw [hat.1, hat.2] at HA
      simp only [Bool.or_false] at HA
      clear hat
      by_cases hnm : n = m
      · subst hnm
        rw [if_pos rfl] at HA
        have hc := hp9.cell (276 + n)
        rw [rowA_get _ (by omega)] at hc
        go_wp2_with (refine row_load 93 (.tmp 6) ?_ ?_ w.heap.size 300 h 93 ?_ hp9 _ Try.underlying93 ?_ covSize ?_; rfl; rfl; rfl; rfl)
        refine HA.mono ?_
        rintro e w8 ⟨rfl, k8⟩
        have hcell := (k8.fl fl7).cell
        go_wp2_with fail
        go_ret
        exact ⟨rfl, hb11.trans (k8.below hb11.size hs7)⟩
      · rw [if_neg hnm] at HA
        have hnm2 : ¬ (n : Int) = (m : Int) := by omega
        go_wp2_with (refine row_load 93 (.tmp 6) ?_ ?_ w.heap.size 300 h 93 ?_ hp9 _ Try.underlying93 ?_ covSize ?_; rfl; rfl; rfl; rfl)
        refine HA.mono ?_
        rintro e w8 ⟨rfl, k8⟩
        have hcell := (k8.fl fl7).cell
        go_wp2_with fail
        go_ret
        exact ⟨rfl, hb11.trans (k8.below hb11.size hs7)⟩
theorem walk (f : Nat → Int) (_ : ∀ k, -9223372036854775808 ≤ f k ∧ f k ≤ 9223372036854775807) (i : Int) (_ : -9223372036854775808 ≤ i ∧ i ≤ 9223372036854775807) (j : Int) (_ : -9223372036854775808 ≤ j ∧ j ≤ 9223372036854775807) (v : Int) (_ : -9223372036854775808 ≤ v ∧ v ≤ 9223372036854775807) (x : Int) (_ : -9223372036854775808 ≤ x ∧ x ≤ 9223372036854775807) (y : Int) (_ : -9223372036854775808 ≤ y ∧ y ≤ 9223372036854775807) (w : World) : Good f i j v x y w := by
  cases h : aboveB i j
  · exact walk_core f f i j v x y w (Lib.hid fun w => set_out f i j v w h) (Lib.hid fun e => by rw [h] at e; nomatch e) (Lib.hid fun _ => rfl) (Lib.hid fun _ _ => rfl)
  · obtain ⟨h0, h1, h2⟩ := (aboveB_iff i j).1 h
    obtain ⟨_, _, hp1, hp2⟩ := plc_bd h0 h1 h2
    refine walk_core f (upd f (plc i j).toNat v) i j v x y w (Lib.hid fun w => set_in f i j v w h0 h1 h2) (Lib.hid fun _ => by unfold uF; rw [h, cond_true]; unfold upd; rw [if_pos rfl]) (Lib.hid fun e => ?_) (Lib.hid fun k hk => by unfold upd; rw [if_neg (by omega)])
    unfold uF
    cases hxy : aboveB x y
    · rfl
    · obtain ⟨k0, k1, k2⟩ := (aboveB_iff x y).1 hxy
      obtain ⟨_, _, hq1, hq2⟩ := plc_bd k0 k1 k2
      rw [cond_true, cond_true]
      unfold upd
      rw [if_neg]
      intro ee
      have := plc_inj k0 k1 k2 h0 h1 h2 (by omega)
      omega
end Go.Proofs.Ytfkeljolpcbbkaa.triSets
