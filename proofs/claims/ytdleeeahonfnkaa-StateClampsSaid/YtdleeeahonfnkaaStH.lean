/- Package state: numbers put in; an estimate kept. -/
import Derived.Test.YtdleeeahonfnkaaStG
namespace Go.Proofs.Ytdleeeahonfnkaa
open Go.RowKit
open SX (boxF)

/-- Numbers put in from a place on: as many as exist. -/
def putA (f : Nat → Int) (c : Int) (g : Nat → Int) (k : Nat) : Nat → Int := fun j => if c ≤ (j : Int) ∧ (j : Int) < c + k then g ((j : Int) - c).toNat else f j
theorem putA_zero (f : Nat → Int) (c : Int) (g : Nat → Int) : putA f c g 0 = f := by funext j; unfold putA; rw [if_neg (by omega)]
theorem putA_in (f : Nat → Int) (c : Int) (g : Nat → Int) (k : Nat) (i : Int) (hi : i = c + k) (h0 : 0 ≤ i) : upd (putA f c g k) i.toNat (g k) = putA f c g (k + 1) := by
  funext j; unfold upd putA
  by_cases h : j = i.toNat
  · subst h
    rw [if_pos rfl, if_pos (by omega)]
    congr 1; omega
  · rw [if_neg h]
    by_cases h2 : c ≤ (j : Int) ∧ (j : Int) < c + k
    · rw [if_pos h2, if_pos (by omega)]
    · rw [if_neg h2, if_neg (by omega)]
theorem putA_out (f : Nat → Int) (c : Int) (g : Nat → Int) (k : Nat) (hi : c + k < 0 ∨ 24 ≤ c + (k : Int)) {j : Nat} (hj : j < 24) : putA f c g k j = putA f c g (k + 1) j := by
  unfold putA
  by_cases h2 : c ≤ (j : Int) ∧ (j : Int) < c + k
  · rw [if_pos h2, if_pos (by omega)]
  · rw [if_neg h2, if_neg (by omega)]
theorem exists_is (i : Int) (b : Bool) (hb : b = true ↔ 0 ≤ i ∧ i < 24) (w : World) : Calls Try.prog 131 #[.int .i64 i] w fun e w' => e = .returned (.bool b) ∧ w = w' := by
  by_cases h : 0 ≤ i
  · by_cases h2 : i < 24
    · obtain rfl : b = true := hb.2 ⟨h, h2⟩
      clear hb
      go_enter Try.func131, Try.ntmps131
      go_wp2_with fail
      go_ret
      exact ⟨rfl, rfl⟩
    · obtain rfl : b = false := by
        cases b
        · rfl
        · have := hb.1 rfl; omega
      clear hb
      go_enter Try.func131, Try.ntmps131
      go_wp2_with fail
      go_ret
      exact ⟨rfl, rfl⟩
  · obtain rfl : b = false := by
      cases b
      · rfl
      · have := hb.1 rfl; omega
    clear hb
    go_enter Try.func131, Try.ntmps131
    go_wp2_with fail
    go_ret
    exact ⟨rfl, rfl⟩
/-- What comes in as a slice: of one's own or not, or none. -/
structure Coming (A : Option Addr) (n : Nat) (g : Nat → Int) (w : World) : Prop where
  some_ : 0 < n → ∃ b ob, A = some ⟨b, ob, none⟩ ∧ b < w.heap.size ∧ Ints w b ob n g
set_option maxHeartbeats 4000000 in
theorem with_any (A : Option Addr) (f : Nat → Int) (c : Int) (n cp : Nat) (g : Nat → Int) (w : World) (hA : Coming A n g w) (hn : n ≤ 1000) (hc : -1000000 ≤ c ∧ c ≤ 1000000) :
    Calls Try.prog 69 #[.agg (rowA 24 f), .int .i64 c, .slice A n cp] w fun e w' => e = .returned (.agg (rowA 24 (putA f c g n))) ∧ Below w.heap.size w w' := by
  go_enter Try.func69, Try.ntmps69
  go_upto_region 1 with (fail)
  rw [zero24s]
  generalize hW : World.alloc (World.alloc w _) _ = W
  have hb : Below w.heap.size w W := by subst hW; exact ((Below.refl _ _).alloc (Nat.le_refl _) _).alloc (by simp) _
  have hB : Blk W w.heap.size (rowA 24 (putA f c g 0)) 77 := by subst hW; rw [putA_zero]; exact (Blk.made _ _ _ rfl).alloc _
  have hR : Blk W (w.heap.size + 1) (rowA 24 fun _ => 0) 77 := by subst hW; exact Blk.made _ _ _ (by simp)
  clear hW
  go_wp2_with fail
  go_loopw [7, 8, 9, 12] (fun x y z i wr => ∃ k : Nat, k ≤ n ∧ i = .int .i64 (k : Int) ∧ Below w.heap.size w wr ∧ Blk wr w.heap.size (rowA 24 (putA f c g k)) 77 ∧ Blk wr (w.heap.size + 1) (rowA 24 fun _ => 0) 77) (fun _ _ _ i _ => n - (intOf i).toNat)
  case atStart => exact ⟨0, by omega, rfl, hb, hB, hR⟩
  case round =>
    obtain ⟨k, hk, rfl, hb, hB, hR⟩ := hrel
    by_cases hlt : k < n
    · obtain ⟨b, ob, rfl, hbl, hI⟩ := hA.some_ (by omega)
      have hv := (hI.below hb hbl).at_ k hlt
      have hltI : (k : Int) < (n : Int) := by omega
      have hk0 : (0 : Int) ≤ (k : Int) := by omega
      by_cases hin : 0 ≤ c + k ∧ c + (k : Int) < 24
      · have HX := Lib.hid (fun w => exists_is (c + k) true ⟨fun _ => hin, fun _ => rfl⟩ w)
        have hf := hB.free (c + k).toNat
        have hB5 := hB.setI (k := (c + k).toNat) (by omega) (g k)
        rw [putA_in f c g k (c + k) rfl hin.1] at hB5
        have hR5 := hR.other (b := w.heap.size) (i := (c + k).toNat) (by omega) (.int .i64 (g k))
        have hb5 := hb.setCell (p := ⟨w.heap.size, (c + k).toNat, none⟩) (Nat.le_refl _) (.int .i64 (g k))
        have hcell := hB.cell (c + k).toNat
        rw [rowA_get _ (by omega)] at hcell
        have H := Lib.hid (And.intro hB5 (And.intro hR5 hb5))
        clear hB5 hR5 hb5 hB hR
        generalize hq : c + (k : Int) = q at *
        obtain ⟨hq0, hq1⟩ := hin
        go_wp2_with fail
        refine (HX.out _).mono ?_
        rintro e w2 ⟨rfl, rfl⟩
        go_wp2_with fail
        obtain ⟨hB5, hR5, hb5⟩ := H.out
        exact ⟨⟨k + 1, by omega, by simp, hb5, hB5, hR5⟩, by simp [intOf]; omega⟩
      · have HX := Lib.hid (fun w => exists_is (c + k) false ⟨fun h => (by cases h), fun h => absurd h hin⟩ w)
        have hB5 := hB.congr (fun j hj => putA_out f c g k (by omega) hj)
        have H := Lib.hid (And.intro hB5 (And.intro hR hb))
        clear hB5 hB hR
        generalize hq : c + (k : Int) = q at *
        go_wp2_with fail
        refine (HX.out _).mono ?_
        rintro e w2 ⟨rfl, rfl⟩
        go_wp2_with fail
        obtain ⟨hB5, hR5, hb5⟩ := H.out
        exact ⟨⟨k + 1, by omega, by simp, hb5, hB5, hR5⟩, by simp [intOf]; omega⟩
    · obtain rfl : k = n := by omega
      clear hlt hk hA
      go_wp2_with (first
        | (refine row_load 77 _ rfl rfl w.heap.size 24 _ _ rfl hB _ Try.underlying77 rfl stateSize ?_)
        | (refine row_store 77 _ _ rfl rfl (w.heap.size + 1) 24 _ _ _ rfl rfl hR stateSize ?_))
      exact bodyPost_ret (v := .agg (rowA 24 (putA f c g k))) (results_row rfl _ _ (w.heap.size + 1) 24 _ _ _ rfl hR.setRow Try.underlying77 rfl stateSize) rfl ⟨rfl, below_setRow hb (by omega) _⟩
/-- The quaternion of an estimate made one of length one. -/
def turnF (f : Nat → Int) : Nat → Int := fun j => if j < 4 then unitF f j else f j
theorem load_row_of {w : World} {b n : Nat} {f : Nat → Int} {t : TypeId} (P : Program) (h : Blk w b (rowA n f) t) : Sem.run P (loadCellsFrom ⟨b, 0, none⟩ 0 n #[]) w = .ok (rowA n f) w := by
  have hl := run_loadCells_list (P := P) w ⟨b, 0, none⟩ (rowA n f).toList (fun j v hv => by
    rw [show ((⟨b, 0, none⟩ : Addr).add j) = ⟨b, 0 + j, none⟩ from Addr.add_mid b 0 j, Nat.zero_add, h.cell]
    simpa using hv)
  rw [Array.length_toList, rowA_size] at hl
  simpa [loadCells] using hl
/-- A row's type behind a name, so that a walk does not open what it reads number by number. -/
structure OpW (t T : TypeId) (n N : Nat) : Prop where
  is : t = T
  agg : ∀ w, Sem.run Try.prog (isAgg T) w = .ok true w
  size : ∀ w, Sem.run Try.prog (sizeOf T) w = .ok N w
  load : ∀ w b f t', Blk w b (rowA n f) t' → Sem.run Try.prog (loadCellsFrom ⟨b, 0, none⟩ 0 N #[]) w = .ok (rowA n f) w
  len : ∀ f, (rowA n f).size = N
theorem opw {t : TypeId} {n : Nat} (h1 : ∀ w, Sem.run Try.prog (isAgg t) w = .ok true w) (h2 : ∀ w, Sem.run Try.prog (sizeOf t) w = .ok n w) : ∃ T N, OpW t T n N :=
  ⟨_, n, rfl, h1, h2, fun _ _ _ _ h => load_row_of _ h, fun f => rowA_size n f⟩
theorem lay_rowW (P : Program) {w : World} {b n : Nat} (f : Nat → Int) {g : Nat → Int} {t : TypeId} (h : Blk w b (rowA n g) t) : Sem.run P (storeCells ⟨b, 0, none⟩ (rowA n f).toList 0) w = .ok () (w.setRow b (rowA n f)) := by
  have := run_storeCells_from (P := P) b t (rowA n f).toList 0 (rowA n g) w h (by simp [rowA_size]) (fun v hv => (Array.all_eq_true_iff_forall_mem.1 (rowA_one n f)) v (by simpa using hv))
  simpa using this
theorem opState : ∃ T N, OpW 77 T 24 N   := opw (fun w => by kernel_rfl) (fun w => by kernel_rfl)
set_option maxHeartbeats 4000000 in
theorem sunit_any (p o : Nat) (f : Nat → Int) (h : Bool) (w : World) (fl : Fl p o h w) :
    Calls Try.prog 129 #[.pointer (some ⟨p, o, none⟩), .agg (rowA 24 f)] w fun e w' => e = .returned (.agg (rowA 24 (turnF f))) ∧ FlW p o (h || unitH f) w w' := by
  have hpw := fl.lt
  go_enter Try.func129, Try.ntmps129
  go_upto_region 1 with (fail)
  rw [zero24s]
  generalize hW : World.alloc (World.alloc w _) _ = W
  have hF : FlW p o h w W := by subst hW; exact ((FlW.refl fl).alloc _).alloc _
  have hB : Blk W w.heap.size (rowA 24 f) 77 := by subst hW; exact (Blk.made _ _ _ rfl).alloc _
  have hR : Blk W (w.heap.size + 1) (rowA 24 fun _ => 0) 77 := by subst hW; exact Blk.made _ _ _ (by simp)
  have hz : w.heap.size + 1 < W.heap.size := by subst hW; simp
  clear hW
  have H := Lib.hid (And.intro hR hF)
  clear hR hF
  go_wp2_with (refine row_load 77 _ rfl rfl w.heap.size 24 _ _ rfl hB _ Try.underlying77 rfl stateSize ?_)
  refine (att_any f W).mono ?_
  rintro e W1 ⟨rfl, k1⟩
  obtain ⟨hR, hF⟩ := H.out
  replace hB := hB.call k1
  replace hR := hR.call k1
  replace hF := hF.then k1
  replace hz := Nat.lt_of_lt_of_le hz k1.size
  have fr := hF.fl fl
  clear H k1
  have H := Lib.hid (And.intro hB (And.intro hR hF))
  clear hB hR hF
  go_wp2_with fail
  refine (unit_any p o f h W1 fr).mono ?_
  rintro e W2 ⟨rfl, k2⟩
  obtain ⟨hB, hR, hF⟩ := H.out
  replace hB := hB.flag (by omega) k2
  replace hR := hR.flag (by omega) k2
  replace hF := hF.trans k2
  replace hz := Nat.lt_of_lt_of_le hz k2.size
  have HE := Lib.hid (show ∀ j, j < 24 → putA f 0 (unitF f) 4 j = turnF f j from fun j hj => by
    unfold putA turnF
    by_cases h : j < 4
    · rw [if_pos h, if_pos (by omega)]
      congr 1
    · rw [if_neg h, if_neg (by omega)])
  have HU := Lib.hid (show unitH f = unitH f from rfl)
  clear H k2 fr
  generalize unitF f = u at *
  have H := Lib.hid (And.intro hR hF)
  clear hR hF
  go_upto_region 2 with (rw [zero4]; refine row_store 85 _ _ rfl rfl W2.heap.size 4 _ _ _ rfl rfl (Blk.made W2 (rowA 4 fun _ => 0) 85 rfl) quatSize ?_)
  obtain ⟨hR, hF⟩ := H.out
  generalize hW3 : World.setRow _ _ _ = W3
  have hz3 : W2.heap.size < W3.heap.size := by subst hW3; simp
  have hX : Blk W3 W2.heap.size (rowA 4 u) 85 := by subst hW3; exact (Blk.made W2 (rowA 4 fun _ => 0) 85 rfl).setRow
  replace hB : Blk W3 w.heap.size (rowA 24 f) 77 := by subst hW3; exact (hB.alloc _).otherRow (by omega)
  replace hR : Blk W3 (w.heap.size + 1) (rowA 24 fun _ => 0) 77 := by subst hW3; exact (hR.alloc _).otherRow (by omega)
  replace hF : FlW p o (h || unitH f) w W3 := by subst hW3; exact (hF.alloc _).row (by omega) _
  clear hW3 H
  have hI := hX.drew.ints
  have HC : Coming (some ⟨W2.heap.size, 0, none⟩) 4 u W3.drew := ⟨fun _ => ⟨W2.heap.size, 0, rfl, hz3, hI⟩⟩
  generalize W2.heap.size = X at *
  obtain ⟨T, NN, hS⟩ := opState
  have l1 := hS.load _ _ _ _ hB.drew
  have hTa := hS.agg
  have hTs := hS.size
  have hTl := hS.len
  rw [hS.is]
  have H := Lib.hid (And.intro hR.drew hF.drew)
  clear hR hF hX hI hB hS
  go_region_with (go_at_call 69; go_loud (refine (with_any (some ⟨X, 0, none⟩) f 0 4 4 u _ HC (by omega) (by omega)).mono ?_; rintro e W4 ⟨rfl, k4⟩; rw [rowA_congr HE.out]; have hst := lay_rowW Try.prog (turnF f) (H.out.1.call k4)))
  all_goals
    have hR5 := (H.out.1.call k4).setRow (d := rowA 24 (turnF f))
    have hF5 := Lib.hid ((H.out.2.then k4).row (b := w.heap.size + 1) (by omega) (rowA 24 (turnF f)))
    clear H k4 hst l1
    go_wp2_with fail
    exact bodyPost_ret (v := .agg (rowA 24 (turnF f))) (results_row rfl _ _ (w.heap.size + 1) 24 _ _ _ rfl hR5 Try.underlying77 rfl stateSize) rfl ⟨rfl, hF5.out⟩
/-- An estimate kept; what clamps. -/
def keptF (f : Nat → Int) : Nat → Int := boxed (bif SX.nearQ f then f else turnF f)
def keptH (f : Nat → Int) : Bool := (bif SX.nearQ f then false else unitH f) || boxO f 20
theorem boxO_turn (f : Nat → Int) : ∀ k, boxO (turnF f) k = boxO f k
  | 0 => rfl
  | k + 1 => by
    rw [boxO, boxO, boxO_turn f k]
    have : turnF f (4 + k) = f (4 + k) := by unfold turnF; rw [if_neg (by omega)]
    rw [this]
set_option maxHeartbeats 4000000 in
theorem skeep_any (p o : Nat) (f : Nat → Int) (h : Bool) (w : World) (fl : Fl p o h w) :
    Calls Try.prog 66 #[.pointer (some ⟨p, o, none⟩), .agg (rowA 24 f)] w fun e w' => e = .returned (.agg (rowA 24 (keptF f))) ∧ FlW p o (h || keptH f) w w' := by
  have hpw := fl.lt
  go_enter Try.func66, Try.ntmps66
  go_upto_region 1 with (fail)
  rw [zero24s]
  generalize hW : World.alloc (World.alloc w _) _ = W
  have hF : FlW p o h w W := by subst hW; exact ((FlW.refl fl).alloc _).alloc _
  have hB : Blk W w.heap.size (rowA 24 f) 77 := by subst hW; exact (Blk.made _ _ _ rfl).alloc _
  have hR : Blk W (w.heap.size + 1) (rowA 24 fun _ => 0) 77 := by subst hW; exact Blk.made _ _ _ (by simp)
  have hz : w.heap.size + 1 < W.heap.size := by subst hW; simp
  clear hW
  have H := Lib.hid (And.intro hR hF)
  clear hR hF
  go_wp2_with (refine row_load 77 _ rfl rfl w.heap.size 24 _ _ rfl hB _ Try.underlying77 rfl stateSize ?_)
  refine (att_any f W).mono ?_
  rintro e W1 ⟨rfl, k1⟩
  obtain ⟨hR, hF⟩ := H.out
  replace hB := hB.call k1
  replace hR := hR.call k1
  replace hF := hF.then k1
  replace hz := Nat.lt_of_lt_of_le hz k1.size
  clear H k1
  have H := Lib.hid (And.intro hB (And.intro hR hF))
  clear hB hR hF
  go_wp2_with fail
  refine (near_any f W1).mono ?_
  rintro e W2 ⟨rfl, k2⟩
  obtain ⟨hB, hR, hF⟩ := H.out
  replace hB := hB.call k2
  replace hR := hR.call k2
  replace hF := hF.then k2
  replace hz := Nat.lt_of_lt_of_le hz k2.size
  have HK := Lib.hid (show keptF f = boxed (bif SX.nearQ f then f else turnF f) ∧ keptH f = ((bif SX.nearQ f then false else unitH f) || boxO f 20) from ⟨rfl, rfl⟩)
  clear H k2
  cases hq : SX.nearQ f
  · rw [hq] at HK
    have H := Lib.hid (And.intro hR hF)
    have fr := hF.fl fl
    clear hR hF hq
    go_wp2_with (refine row_load 77 _ rfl rfl w.heap.size 24 _ _ rfl hB _ Try.underlying77 rfl stateSize ?_)
    refine (sunit_any p o f h W2 fr).mono ?_
    rintro e W3 ⟨rfl, k3⟩
    obtain ⟨hR, hF⟩ := H.out
    replace hB := hB.flag (by omega) k3
    have hB4 := hB.setRow (d := rowA 24 (turnF f))
    have hR4 := (hR.flag (by omega) k3).otherRow (b := w.heap.size) (d := rowA 24 (turnF f)) (by omega)
    have hF4 := (hF.trans k3).row (b := w.heap.size) (Nat.le_refl _) (rowA 24 (turnF f))
    have hz4 : w.heap.size + 1 < (W3.setRow w.heap.size (rowA 24 (turnF f))).heap.size := by have := k3.size; simp; omega
    have fr4 := hF4.fl fl
    clear H k3 hR hF
    have H := Lib.hid (And.intro hR4 hF4)
    clear hR4 hF4
    go_upto_region 3 with (refine row_store 77 _ _ rfl rfl w.heap.size 24 _ _ _ rfl rfl hB stateSize ?_)
    clear hB
    generalize World.setRow _ _ _ = W4 at *
    go_wp2_with (refine row_load 77 _ rfl rfl w.heap.size 24 _ _ rfl hB4 _ Try.underlying77 rfl stateSize ?_)
    refine (sclamp_any p o (turnF f) _ W4 fr4).mono ?_
    rintro e W5 ⟨rfl, k5⟩
    obtain ⟨hR, hF⟩ := H.out
    replace hR := hR.flag (by omega) k5
    have H := Lib.hid (hF.trans k5)
    clear hF
    go_wp2_with (refine row_store 77 _ _ rfl rfl (w.heap.size + 1) 24 _ _ _ rfl rfl hR stateSize ?_)
    refine bodyPost_ret (v := .agg (rowA 24 (boxed (turnF f)))) (results_row rfl _ _ (w.heap.size + 1) 24 _ _ _ rfl hR.setRow Try.underlying77 rfl stateSize) rfl ⟨?_, ?_⟩
    · rw [HK.out.1]; rfl
    · rw [HK.out.2]
      exact (flag_is (by simp [boxO_turn, Bool.or_assoc]) H.out).row (by omega) _
  · rw [hq] at HK
    have H := Lib.hid (And.intro hR hF)
    have fr4 := hF.fl fl
    clear hR hF hq
    go_wp2_with (refine row_load 77 _ rfl rfl w.heap.size 24 _ _ rfl hB _ Try.underlying77 rfl stateSize ?_)
    refine (sclamp_any p o f _ W2 fr4).mono ?_
    rintro e W5 ⟨rfl, k5⟩
    obtain ⟨hR, hF⟩ := H.out
    replace hR := hR.flag (by omega) k5
    have H := Lib.hid (hF.trans k5)
    clear hF
    go_wp2_with (refine row_store 77 _ _ rfl rfl (w.heap.size + 1) 24 _ _ _ rfl rfl hR stateSize ?_)
    refine bodyPost_ret (v := .agg (rowA 24 (boxed f))) (results_row rfl _ _ (w.heap.size + 1) 24 _ _ _ rfl hR.setRow Try.underlying77 rfl stateSize) rfl ⟨?_, ?_⟩
    · rw [HK.out.1]; rfl
    · rw [HK.out.2]
      exact (flag_is (by simp) H.out).row (by omega) _
end Go.Proofs.Ytdleeeahonfnkaa
