/- A sample is put in: one that is taken. -/
import Derived.Test.YtdndomknjefgkaaDnG
namespace Go.Proofs.Ytdndomknjefgkaa.Rg
open Go.RowKit
/-- The list of a row. -/
def lst (f : Nat → Int) : Sam := (List.range 8).map f
theorem fn_lst (f : Nat → Int) (j : Nat) (h : j < 8) : fn (lst f) j = f j := by simp [fn, lst, h]
theorem sum2_any (p o B c : Nat) (a i : Nat → Int) (h : Bool) (w : World) (f : Fl p o h w) (hB : Blk w B (rowA 16 fun k => if k < 8 then a k else i (k - 8)) 32) (hp : B ≠ p) (ha : Mod 1 a) (hi : Mod 1 i) :
    Calls Try.prog 30 #[.pointer (some ⟨p, o, none⟩), .slice (some ⟨B, 0, none⟩) 2 c] w fun e w' => e = .returned (.agg (rowA 8 (addI a i))) ∧ FlW p o h w w' := by
  have hl : Arg 8 w (some ⟨B, 0, none⟩) 2 [lst a, lst i] := ⟨rfl, by simp [lst], by omega, .inr ⟨B, 0, rfl, hB.lt, ⟨fun q hq => by
    rw [Nat.zero_add, hB.cell, rowA_get _ (by omega)]
    have e : (if q < 8 then a q else i (q - 8)) = flk 8 [lst a, lst i] q := by
      by_cases h8 : q < 8
      · rw [if_pos h8]
        have := flk_at 8 [lst a, lst i] 0 q h8
        rw [Nat.mul_zero, Nat.zero_add] at this
        rw [this]; exact (fn_lst a q h8).symm
      · rw [if_neg h8]
        have := flk_at 8 [lst a, lst i] 1 (q - 8) (by omega)
        rw [show 8 * 1 + (q - 8) = q by omega] at this
        rw [this]; exact (fn_lst i (q - 8) (by omega)).symm
    rw [e]⟩⟩⟩
  refine (sum_any p o _ 2 c [lst a, lst i] h w f hl (fun g o' e => by injection e with e; injection e with e _ _; exact e ▸ hp) (by omega) ?_).mono ?_
  · intro y hy j h1 h2
    simp only [List.mem_cons, List.not_mem_nil, or_false] at hy
    rcases hy with rfl | rfl
    · rw [fn_lst _ j h2]; exact ha j h1 h2
    · rw [fn_lst _ j h2]; exact hi j h1 h2
  · rintro e w' ⟨rfl, k⟩
    refine ⟨?_, k⟩
    rw [rowA_congr (g := addI a i)]
    intro j hj
    show addI (addI (fun _ => 0) (fn (lst a))) (fn (lst i)) j = _
    unfold addI
    by_cases h0 : j = 0
    · rw [if_pos h0, if_pos h0, fn_lst _ _ (by omega)]
    · rw [if_neg h0, if_neg h0, if_neg h0, fn_lst _ j hj, fn_lst _ j hj]; simp
theorem frozen_same {W W' : World} {q i : Nat} (h : W'.heap[q]? = W.heap[q]?) : W'.frozen? ⟨q, i, none⟩ = W.frozen? ⟨q, i, none⟩ := by
  unfold World.frozen?
  rw [show W'.heap[(⟨q, i, none⟩ : Addr).block]? = W.heap[(⟨q, i, none⟩ : Addr).block]? from h]
theorem fl_row {p o b : Nat} {h : Bool} {w : World} (f : Fl p o h w) (hb : p ≠ b) (d : Array Value) : Fl p o h (w.setRow b d) :=
  ⟨by rw [cell_same (setRow_other w b p d hb)]; exact f.cell, by rw [frozen_same (setRow_other w b p d hb)]; exact f.free, by simpa using f.lt⟩
theorem Tch.row {S : List Nat} {w w1 : World} (h : Tch S w w1) {b : Nat} (hb : b ∈ S ∨ w.heap.size ≤ b) (d : Array Value) : Tch S w (w1.setRow b d) :=
  ⟨h.os, h.tape, h.output, by simpa using h.size, fun c hc hn => (setRow_other w1 b c d (fun e => by subst e; exact hb.elim hn (fun q => by omega))).trans (h.block c hc hn)⟩
theorem fl_put {p o b m n : Nat} {h : Bool} {g : Nat → Int} {w : World} (f : Fl p o h w) (hb : p ≠ b) : Fl p o h (putI w b m n g) := by
  have kk : Tch [b] w (putI w b m n g) := (Tch.refl _ _).putI (.inl (by simp)) _ _ _
  exact ⟨by rw [kk.cell f.lt (by simp; omega)]; exact f.cell, by rw [frozen_same (kk.block p f.lt (by simp; omega))]; exact f.free, Nat.lt_of_lt_of_le f.lt kk.size⟩
/-- What lies there while a sample is put in. -/
structure St (w : World) (p o : Nat) (h : Bool) (A s : Nat) (G i : Nat → Int) (W : World) : Prop where
  F : FlW p o h w W
  a : Blk W A (rowA 10 G) 77
  b : Blk W s (rowA 8 i) 32
  r : Blk W (s + 1) (rowA 8 fun _ => 0) 32
theorem St.flag {w W W2 : World} {p o : Nat} {h : Bool} {A s : Nat} {G i : Nat → Int} (m : St w p o h A s G i W) (hs : A ≠ p ∧ s ≠ p ∧ s + 1 ≠ p) (k : FlW p o h W W2) : St w p o h A s G i W2 := ⟨m.F.trans k, m.a.flag hs.1 k, m.b.flag hs.2.1 k, m.r.flag hs.2.2 k⟩
theorem St.alloc {w W : World} {p o : Nat} {h : Bool} {A s : Nat} {G i : Nat → Int} (m : St w p o h A s G i W) (ob : Obj) : St w p o h A s G i (W.alloc ob) := ⟨m.F.alloc _, m.a.alloc _, m.b.alloc _, m.r.alloc _⟩
theorem St.drew {w W : World} {p o : Nat} {h : Bool} {A s : Nat} {G i : Nat → Int} (m : St w p o h A s G i W) : St w p o h A s G i W.drew := ⟨m.F.drew, m.a, m.b, m.r⟩
theorem mid8 {W : World} {A : Nat} {F G : Nat → Int} {t : TypeId} (h : Blk W A (rowA 10 G) t) (hF : ∀ j, 2 ≤ j → G j = F j) : Ints W A 2 8 (pend F) := ⟨fun j hj => by rw [h.cell, rowA_get _ (by omega), hF _ (by omega)]; rfl⟩
set_option maxRecDepth 100000 in
set_option maxHeartbeats 16000000 in
theorem put_go (p o A : Nat) (F i : Nat → Int) (h : Bool) (w : World) (f : Fl p o h w) (hA0 : Blk w A (rowA 10 F) 77) (hAp : A ≠ p) (hk : okI i = true) (hle : ¬ i 0 ≤ F 1) (hm : Mod 1 (pend F)) :
    Calls Try.prog 10 #[.pointer (some ⟨A, 0, none⟩), .pointer (some ⟨p, o, none⟩), .agg (rowA 8 i)] w fun e w' =>
      e = .returned (.tuple #[.agg (rowA 8 (toldR F i)), .bool (told F i), .int .i64 0]) ∧ Fl p o h w' ∧ Blk w' A (rowA 10 (nextF F i)) 77 ∧ Tch [p, A] w w' := by
  have hmi := okI_mod hk
  have HM := Lib.hid (And.intro hm hmi)
  clear hm hmi
  go_enter Try.func10, Try.ntmps10
  go_upto_region 1 with (fail)
  have hs : Blk ((w.alloc (.cells (rowA 8 i) 32)).alloc (.cells (rowA 8 fun _ => 0) 32)) w.heap.size (rowA 8 i) 32 := (Blk.made _ _ _ rfl).alloc _
  have hr : Blk ((w.alloc (.cells (rowA 8 i) 32)).alloc (.cells (rowA 8 fun _ => 0) 32)) (w.heap.size + 1) (rowA 8 fun _ => 0) 32 := Blk.made _ _ _ (by simp)
  have hK : Below w.heap.size w ((w.alloc (.cells (rowA 8 i) 32)).alloc (.cells (rowA 8 fun _ => 0) 32)) := ((Below.refl _ _).alloc (Nat.le_refl _) _).alloc (by simp) _
  have hA : Blk ((w.alloc (.cells (rowA 8 i) 32)).alloc (.cells (rowA 8 fun _ => 0) 32)) A (rowA 10 F) 77 := (hA0.alloc _).alloc _
  have hsA : A < w.heap.size := hA0.lt
  have hsp : p < w.heap.size := f.lt
  change Code.wp _ _ _ _ ((w.alloc (.cells (rowA 8 i) 32)).alloc (.cells (rowA 8 fun _ => 0) 32))
  generalize (w.alloc (.cells (rowA 8 i) 32)).alloc (.cells (rowA 8 fun _ => 0) 32) = X at *
  generalize hsz : w.heap.size = s at *
  refine rg_in (Below X.heap.size X) (by kernel_rfl) (by kernel_rfl) (Below.refl _ _).drew ?_
  refine rq_start ?_
  refine rq_as (b := actP A p o s i (.bool false) (.int .i64 0) undef undef undef undef undef undef undef undef undef undef undef undef undef undef undef undef undef undef undef undef undef undef undef undef undef undef undef undef undef undef undef undef undef undef undef undef undef undef undef undef undef undef undef undef undef undef undef undef undef) (by kernel_rfl) ?_
  refine rq_row 32 (.tmp 5) s 8 i 32 _ (by kernel_rfl) rfl (by kernel_rfl) (fun w hc => hs.below hc hs.lt) Try.underlying32 rfl imuSize ?_
  refine rq_as (b := actP A p o s i (.bool false) (.int .i64 0) (.agg (rowA 8 i)) undef undef undef undef undef undef undef undef undef undef undef undef undef undef undef undef undef undef undef undef undef undef undef undef undef undef undef undef undef undef undef undef undef undef undef undef undef undef undef undef undef undef undef undef undef undef undef undef) (by kernel_rfl) ?_
  refine rq_call (.bool true) 12 #[.agg (rowA 8 i)] (by kernel_rfl) (fun _ => by kernel_rfl) (fun w hc => (goodr i true w hk).mono fun e w' ⟨he, hb⟩ => ⟨he, hc.trans (hb.mono hc.size)⟩) ?_
  refine rq_as (b := actP A p o s i (.bool false) (.int .i64 0) (.agg (rowA 8 i)) (.bool true) undef undef undef undef undef undef undef undef undef undef undef undef undef undef undef undef undef undef undef undef undef undef undef undef undef undef undef undef undef undef undef undef undef undef undef undef undef undef undef undef undef undef undef undef undef undef undef) (by kernel_rfl) ?_
  refine rq_pure (.bool false) (by kernel_rfl) (fun _ => by kernel_rfl) ?_
  refine rq_as (b := actP A p o s i (.bool false) (.int .i64 0) (.agg (rowA 8 i)) (.bool true) (.bool false) undef undef undef undef undef undef undef undef undef undef undef undef undef undef undef undef undef undef undef undef undef undef undef undef undef undef undef undef undef undef undef undef undef undef undef undef undef undef undef undef undef undef undef undef undef undef) (by kernel_rfl) ?_
  refine rq_pure (.bool false) (by kernel_rfl) (fun _ => by kernel_rfl) ?_
  refine rq_as (b := actP A p o s i (.bool false) (.int .i64 0) (.agg (rowA 8 i)) (.bool true) (.bool false) (.bool false) undef undef undef undef undef undef undef undef undef undef undef undef undef undef undef undef undef undef undef undef undef undef undef undef undef undef undef undef undef undef undef undef undef undef undef undef undef undef undef undef undef undef undef undef undef) (by kernel_rfl) ?_
  refine rq_pure (.pointer (some ⟨s, 0, none⟩)) (by kernel_rfl) (fun _ => by kernel_rfl) ?_
  refine rq_as (b := actP A p o s i (.bool false) (.int .i64 0) (.agg (rowA 8 i)) (.bool true) (.bool false) (.bool false) (.pointer (some ⟨s, 0, none⟩)) undef undef undef undef undef undef undef undef undef undef undef undef undef undef undef undef undef undef undef undef undef undef undef undef undef undef undef undef undef undef undef undef undef undef undef undef undef undef undef undef undef undef undef undef) (by kernel_rfl) ?_
  refine rq_i64 (.tmp 14) s 0 (i 0) (by kernel_rfl) rfl (by kernel_rfl) (fun w hc => (hs.below hc hs.lt).cell 0) ?_
  refine rq_as (b := actP A p o s i (.bool false) (.int .i64 0) (.agg (rowA 8 i)) (.bool true) (.bool false) (.bool false) (.pointer (some ⟨s, 0, none⟩)) (.int .i64 (i 0)) undef undef undef undef undef undef undef undef undef undef undef undef undef undef undef undef undef undef undef undef undef undef undef undef undef undef undef undef undef undef undef undef undef undef undef undef undef undef undef undef undef undef undef) (by kernel_rfl) ?_
  refine rq_pure (.pointer (some ⟨A, 0, none⟩)) (by kernel_rfl) (fun _ => by kernel_rfl) ?_
  refine rq_as (b := actP A p o s i (.bool false) (.int .i64 0) (.agg (rowA 8 i)) (.bool true) (.bool false) (.bool false) (.pointer (some ⟨s, 0, none⟩)) (.int .i64 (i 0)) (.pointer (some ⟨A, 0, none⟩)) undef undef undef undef undef undef undef undef undef undef undef undef undef undef undef undef undef undef undef undef undef undef undef undef undef undef undef undef undef undef undef undef undef undef undef undef undef undef undef undef undef undef) (by kernel_rfl) ?_
  refine rq_pure (.pointer (some ⟨A, 0, none⟩)) (by kernel_rfl) (fun _ => by kernel_rfl) ?_
  refine rq_as (b := actP A p o s i (.bool false) (.int .i64 0) (.agg (rowA 8 i)) (.bool true) (.bool false) (.bool false) (.pointer (some ⟨s, 0, none⟩)) (.int .i64 (i 0)) (.pointer (some ⟨A, 0, none⟩)) (.pointer (some ⟨A, 0, none⟩)) undef undef undef undef undef undef undef undef undef undef undef undef undef undef undef undef undef undef undef undef undef undef undef undef undef undef undef undef undef undef undef undef undef undef undef undef undef undef undef undef undef) (by kernel_rfl) ?_
  refine rq_pure (.pointer (some ⟨A, 1, none⟩)) (by kernel_rfl) (fun _ => by kernel_rfl) ?_
  refine rq_as (b := actP A p o s i (.bool false) (.int .i64 0) (.agg (rowA 8 i)) (.bool true) (.bool false) (.bool false) (.pointer (some ⟨s, 0, none⟩)) (.int .i64 (i 0)) (.pointer (some ⟨A, 0, none⟩)) (.pointer (some ⟨A, 0, none⟩)) (.pointer (some ⟨A, 1, none⟩)) undef undef undef undef undef undef undef undef undef undef undef undef undef undef undef undef undef undef undef undef undef undef undef undef undef undef undef undef undef undef undef undef undef undef undef undef undef undef undef undef) (by kernel_rfl) ?_
  refine rq_i64 (.tmp 18) A 1 (F 1) (by kernel_rfl) rfl (by kernel_rfl) (fun w hc => (hA.below hc hA.lt).cell 1) ?_
  refine rq_as (b := actP A p o s i (.bool false) (.int .i64 0) (.agg (rowA 8 i)) (.bool true) (.bool false) (.bool false) (.pointer (some ⟨s, 0, none⟩)) (.int .i64 (i 0)) (.pointer (some ⟨A, 0, none⟩)) (.pointer (some ⟨A, 0, none⟩)) (.pointer (some ⟨A, 1, none⟩)) (.int .i64 (F 1)) undef undef undef undef undef undef undef undef undef undef undef undef undef undef undef undef undef undef undef undef undef undef undef undef undef undef undef undef undef undef undef undef undef undef undef undef undef undef undef) (by kernel_rfl) ?_
  refine rq_pure (.bool (decide (i 0 ≤ F 1))) (by kernel_rfl) (fun _ => by kernel_rfl) ?_
  refine rq_as (b := actP A p o s i (.bool false) (.int .i64 0) (.agg (rowA 8 i)) (.bool true) (.bool false) (.bool false) (.pointer (some ⟨s, 0, none⟩)) (.int .i64 (i 0)) (.pointer (some ⟨A, 0, none⟩)) (.pointer (some ⟨A, 0, none⟩)) (.pointer (some ⟨A, 1, none⟩)) (.int .i64 (F 1)) (.bool (decide (i 0 ≤ F 1))) undef undef undef undef undef undef undef undef undef undef undef undef undef undef undef undef undef undef undef undef undef undef undef undef undef undef undef undef undef undef undef undef undef undef undef undef undef undef) (by kernel_rfl) ?_
  refine rq_pure (.bool (decide (i 0 ≤ F 1))) (by kernel_rfl) (fun _ => by kernel_rfl) ?_
  refine rq_as (b := actP A p o s i (.bool false) (.int .i64 0) (.agg (rowA 8 i)) (.bool true) (.bool false) (.bool false) (.pointer (some ⟨s, 0, none⟩)) (.int .i64 (i 0)) (.pointer (some ⟨A, 0, none⟩)) (.pointer (some ⟨A, 0, none⟩)) (.pointer (some ⟨A, 1, none⟩)) (.int .i64 (F 1)) (.bool (decide (i 0 ≤ F 1))) (.bool (decide (i 0 ≤ F 1))) undef undef undef undef undef undef undef undef undef undef undef undef undef undef undef undef undef undef undef undef undef undef undef undef undef undef undef undef undef undef undef undef undef undef undef undef undef) (by kernel_rfl) ?_
  refine rq_nil fun w1 hb => ?_
  have hsX : s ≤ X.heap.size := by have := hK.size; omega
  have hr1 := hr.below hb hr.lt
  have hs1 := hs.below hb hs.lt
  have hA1 := hA.below hb hA.lt
  have hK1 := hK.trans (hb.mono hsX)
  clear hs hr hK hb hA hA0
  unfold actP
  have c0 : w1.cell? ⟨s, 0, none⟩ = some (.int .i64 (i 0)) := hs1.cell 0
  have c1 : w1.cell? ⟨A, 1, none⟩ = some (.int .i64 (F 1)) := hA1.cell 1
  have f1 : w1.frozen? ⟨A, 1, none⟩ = false := hA1.free 1
  go_upto_region 4 with (fail)
  have fX1 : Fl p o h (w1.setCell ⟨A, 1, none⟩ (.int .i64 (i 0))) := by
    have k : Fl p o h w1 := (f.below (hK1.mono (by omega)))
    exact ⟨by rw [set_cell_other (.inl hAp.symm)]; exact k.cell, by rw [set_frozen]; exact k.free, by rw [size_set]; exact k.lt⟩
  have aX : Blk (w1.setCell ⟨A, 1, none⟩ (.int .i64 (i 0))) A (rowA 10 (upd F 1 (i 0))) 77 := by
    have := hA1.set (i := 1) (.int .i64 (i 0))
    rwa [rowA_set F (by omega)] at this
  have sX := hs1.other (b := A) (i := 1) (by omega) (.int .i64 (i 0))
  have rX := hr1.other (b := A) (i := 1) (by omega) (.int .i64 (i 0))
  have tX : Tch [p, A] w (w1.setCell ⟨A, 1, none⟩ (.int .i64 (i 0))) := ((Tch.of [p, A] (hsz.symm ▸ hK1)).set (.inl (by simp)) _ _)
  have hF1 : ∀ j, 2 ≤ j → upd F 1 (i 0) j = F j := fun j hj => by unfold upd; rw [if_neg (by omega)]
  have hG0 : upd F 1 (i 0) 0 = F 0 := rfl
  have hG1 : upd F 1 (i 0) 1 = i 0 := rfl
  clear c0 c1 f1 hs1 hr1 hA1 hK1
  generalize w1.setCell ⟨A, 1, none⟩ (.int .i64 (i 0)) = X2 at *
  generalize upd F 1 (i 0) = F1 at *
  have hpX := fX1.lt
  have hpq : A ≠ p ∧ s ≠ p ∧ s + 1 ≠ p := by omega
  refine wp_join [28, 29, 30, 31, 32, 33, 34, 35, 36, 37, 38] (fun w' u => ∃ W, St X2 p o h A s F1 i W ∧ w' = putI W A 2 8 (whole F i)) (fun u => actP A p o s i (.bool false) (.int .i64 0) (.agg (rowA 8 i)) (.bool true) (.bool false) (.bool false) (.pointer (some ⟨s, 0, none⟩)) (.int .i64 (i 0)) (.pointer (some ⟨A, 0, none⟩)) (.pointer (some ⟨A, 0, none⟩)) (.pointer (some ⟨A, 1, none⟩)) (.int .i64 (F 1)) (.bool false) (.bool false) undef (.pointer (some ⟨A, 0, none⟩)) (.pointer (some ⟨s, 0, none⟩)) (.int .i64 (i 0)) (.pointer (some ⟨A, 0, none⟩)) (.pointer (some ⟨A, 1, none⟩)) (u 28) (u 29) (u 30) (u 31) (u 32) (u 33) (u 34) (u 35) (u 36) (u 37) (u 38) undef undef undef undef undef undef undef undef undef undef undef undef undef undef undef undef undef undef undef undef) (fun u => by kernel_rfl) ?_ ?_
  · refine wp_region_last (m := 11) (n := 11) (S := St X2 p o h A s F1 i) (Q' := fun e b w' => e = .normal ∧ ∃ v35, b = actP A p o s i (.bool false) (.int .i64 0) (.agg (rowA 8 i)) (.bool true) (.bool false) (.bool false) (.pointer (some ⟨s, 0, none⟩)) (.int .i64 (i 0)) (.pointer (some ⟨A, 0, none⟩)) (.pointer (some ⟨A, 0, none⟩)) (.pointer (some ⟨A, 1, none⟩)) (.int .i64 (F 1)) (.bool false) (.bool false) undef (.pointer (some ⟨A, 0, none⟩)) (.pointer (some ⟨s, 0, none⟩)) (.int .i64 (i 0)) (.pointer (some ⟨A, 0, none⟩)) (.pointer (some ⟨A, 1, none⟩)) (.pointer (some ⟨A, 0, none⟩)) (.pointer (some ⟨p, o, none⟩)) (.pointer (some ⟨A, 0, none⟩)) (.pointer (some ⟨A, 0, none⟩)) (.pointer (some ⟨A, 2, none⟩)) (.agg (rowA 8 (pend F))) (.agg (rowA 8 i)) (v35) (.agg (rowA 8 (whole F i))) (.pointer (some ⟨A, 0, none⟩)) (.pointer (some ⟨A, 2, none⟩)) undef undef undef undef undef undef undef undef undef undef undef undef undef undef undef undef undef undef undef undef ∧ St X2 p o h A s F1 i w') (by kernel_rfl) (by kernel_rfl) (fun e a w hne h => absurd h.1 hne) ?_ (by kernel_rfl) ?_
    · rintro a w' ⟨_, v35, rfl, hs⟩
      refine wpOp_at (by kernel_rfl) (by kernel_rfl) ?_
      refine op_mid 32 (.tmp 38) (.tmp 36) A 2 8 10 (whole F i) F1 77 (by kernel_rfl) (by kernel_rfl) (by kernel_rfl) hs.a (by omega) imuSize ?_
      exact ⟨rfl, by kernel_rfl, w', hs, rfl⟩
    change wpAnyH _ _ _ _ _ _ _ _ (World.drew _)
    have hs : St X2 p o h A s F1 i X2.drew := St.drew ⟨FlW.refl fX1, aX, sX, rX⟩
    have fX := fX1
    generalize World.drew X2 = W0 at *
    refine wpAnyH_as (b := actP A p o s i (.bool false) (.int .i64 0) (.agg (rowA 8 i)) (.bool true) (.bool false) (.bool false) (.pointer (some ⟨s, 0, none⟩)) (.int .i64 (i 0)) (.pointer (some ⟨A, 0, none⟩)) (.pointer (some ⟨A, 0, none⟩)) (.pointer (some ⟨A, 1, none⟩)) (.int .i64 (F 1)) (.bool false) (.bool false) undef (.pointer (some ⟨A, 0, none⟩)) (.pointer (some ⟨s, 0, none⟩)) (.int .i64 (i 0)) (.pointer (some ⟨A, 0, none⟩)) (.pointer (some ⟨A, 1, none⟩)) undef undef undef undef undef undef undef undef undef undef undef undef undef undef undef undef undef undef undef undef undef undef undef undef undef undef undef undef undef undef undef) (by kernel_rfl) ?_
    refine wpAnyH_take (i := 0) rfl (by kernel_rfl) (by kernel_rfl) (by kernel_rfl) (fun _ _ _ h => nomatch h.1) (yields_pure (v := .pointer (some ⟨A, 0, none⟩)) (by kernel_rfl) (fun _ => by kernel_rfl)) hs ?_
    refine wpAnyH_as (b := actP A p o s i (.bool false) (.int .i64 0) (.agg (rowA 8 i)) (.bool true) (.bool false) (.bool false) (.pointer (some ⟨s, 0, none⟩)) (.int .i64 (i 0)) (.pointer (some ⟨A, 0, none⟩)) (.pointer (some ⟨A, 0, none⟩)) (.pointer (some ⟨A, 1, none⟩)) (.int .i64 (F 1)) (.bool false) (.bool false) undef (.pointer (some ⟨A, 0, none⟩)) (.pointer (some ⟨s, 0, none⟩)) (.int .i64 (i 0)) (.pointer (some ⟨A, 0, none⟩)) (.pointer (some ⟨A, 1, none⟩)) (.pointer (some ⟨A, 0, none⟩)) undef undef undef undef undef undef undef undef undef undef undef undef undef undef undef undef undef undef undef undef undef undef undef undef undef undef undef undef undef undef) (by kernel_rfl) ?_
    refine wpAnyH_take (i := 1) rfl (by kernel_rfl) (by kernel_rfl) (by kernel_rfl) (fun _ _ _ h => nomatch h.1) (yields_pure (v := .pointer (some ⟨p, o, none⟩)) (by kernel_rfl) (fun _ => by kernel_rfl)) hs ?_
    refine wpAnyH_as (b := actP A p o s i (.bool false) (.int .i64 0) (.agg (rowA 8 i)) (.bool true) (.bool false) (.bool false) (.pointer (some ⟨s, 0, none⟩)) (.int .i64 (i 0)) (.pointer (some ⟨A, 0, none⟩)) (.pointer (some ⟨A, 0, none⟩)) (.pointer (some ⟨A, 1, none⟩)) (.int .i64 (F 1)) (.bool false) (.bool false) undef (.pointer (some ⟨A, 0, none⟩)) (.pointer (some ⟨s, 0, none⟩)) (.int .i64 (i 0)) (.pointer (some ⟨A, 0, none⟩)) (.pointer (some ⟨A, 1, none⟩)) (.pointer (some ⟨A, 0, none⟩)) (.pointer (some ⟨p, o, none⟩)) undef undef undef undef undef undef undef undef undef undef undef undef undef undef undef undef undef undef undef undef undef undef undef undef undef undef undef undef undef) (by kernel_rfl) ?_
    refine wpAnyH_take (i := 2) rfl (by kernel_rfl) (by kernel_rfl) (by kernel_rfl) (fun _ _ _ h => nomatch h.1) (yields_pure (v := .pointer (some ⟨A, 0, none⟩)) (by kernel_rfl) (fun _ => by kernel_rfl)) hs ?_
    refine wpAnyH_as (b := actP A p o s i (.bool false) (.int .i64 0) (.agg (rowA 8 i)) (.bool true) (.bool false) (.bool false) (.pointer (some ⟨s, 0, none⟩)) (.int .i64 (i 0)) (.pointer (some ⟨A, 0, none⟩)) (.pointer (some ⟨A, 0, none⟩)) (.pointer (some ⟨A, 1, none⟩)) (.int .i64 (F 1)) (.bool false) (.bool false) undef (.pointer (some ⟨A, 0, none⟩)) (.pointer (some ⟨s, 0, none⟩)) (.int .i64 (i 0)) (.pointer (some ⟨A, 0, none⟩)) (.pointer (some ⟨A, 1, none⟩)) (.pointer (some ⟨A, 0, none⟩)) (.pointer (some ⟨p, o, none⟩)) (.pointer (some ⟨A, 0, none⟩)) undef undef undef undef undef undef undef undef undef undef undef undef undef undef undef undef undef undef undef undef undef undef undef undef undef undef undef undef) (by kernel_rfl) ?_
    refine wpAnyH_take (i := 3) rfl (by kernel_rfl) (by kernel_rfl) (by kernel_rfl) (fun _ _ _ h => nomatch h.1) (yields_pure (v := .pointer (some ⟨A, 0, none⟩)) (by kernel_rfl) (fun _ => by kernel_rfl)) hs ?_
    refine wpAnyH_as (b := actP A p o s i (.bool false) (.int .i64 0) (.agg (rowA 8 i)) (.bool true) (.bool false) (.bool false) (.pointer (some ⟨s, 0, none⟩)) (.int .i64 (i 0)) (.pointer (some ⟨A, 0, none⟩)) (.pointer (some ⟨A, 0, none⟩)) (.pointer (some ⟨A, 1, none⟩)) (.int .i64 (F 1)) (.bool false) (.bool false) undef (.pointer (some ⟨A, 0, none⟩)) (.pointer (some ⟨s, 0, none⟩)) (.int .i64 (i 0)) (.pointer (some ⟨A, 0, none⟩)) (.pointer (some ⟨A, 1, none⟩)) (.pointer (some ⟨A, 0, none⟩)) (.pointer (some ⟨p, o, none⟩)) (.pointer (some ⟨A, 0, none⟩)) (.pointer (some ⟨A, 0, none⟩)) undef undef undef undef undef undef undef undef undef undef undef undef undef undef undef undef undef undef undef undef undef undef undef undef undef undef undef) (by kernel_rfl) ?_
    refine wpAnyH_take (i := 4) rfl (by kernel_rfl) (by kernel_rfl) (by kernel_rfl) (fun _ _ _ h => nomatch h.1) (yields_pure (v := .pointer (some ⟨A, 2, none⟩)) (by kernel_rfl) (fun _ => by kernel_rfl)) hs ?_
    refine wpAnyH_as (b := actP A p o s i (.bool false) (.int .i64 0) (.agg (rowA 8 i)) (.bool true) (.bool false) (.bool false) (.pointer (some ⟨s, 0, none⟩)) (.int .i64 (i 0)) (.pointer (some ⟨A, 0, none⟩)) (.pointer (some ⟨A, 0, none⟩)) (.pointer (some ⟨A, 1, none⟩)) (.int .i64 (F 1)) (.bool false) (.bool false) undef (.pointer (some ⟨A, 0, none⟩)) (.pointer (some ⟨s, 0, none⟩)) (.int .i64 (i 0)) (.pointer (some ⟨A, 0, none⟩)) (.pointer (some ⟨A, 1, none⟩)) (.pointer (some ⟨A, 0, none⟩)) (.pointer (some ⟨p, o, none⟩)) (.pointer (some ⟨A, 0, none⟩)) (.pointer (some ⟨A, 0, none⟩)) (.pointer (some ⟨A, 2, none⟩)) undef undef undef undef undef undef undef undef undef undef undef undef undef undef undef undef undef undef undef undef undef undef undef undef undef undef) (by kernel_rfl) ?_
    refine wpAnyH_take (i := 5) rfl (by kernel_rfl) (by kernel_rfl) (by kernel_rfl) (fun _ _ _ h => nomatch h.1) (yields_mid 32 (.tmp 32) A 2 8 (pend F) _ (by kernel_rfl) rfl (by kernel_rfl) (fun _ s => mid8 s.a hF1) Try.underlying32 rfl imuSize) hs ?_
    refine wpAnyH_as (b := actP A p o s i (.bool false) (.int .i64 0) (.agg (rowA 8 i)) (.bool true) (.bool false) (.bool false) (.pointer (some ⟨s, 0, none⟩)) (.int .i64 (i 0)) (.pointer (some ⟨A, 0, none⟩)) (.pointer (some ⟨A, 0, none⟩)) (.pointer (some ⟨A, 1, none⟩)) (.int .i64 (F 1)) (.bool false) (.bool false) undef (.pointer (some ⟨A, 0, none⟩)) (.pointer (some ⟨s, 0, none⟩)) (.int .i64 (i 0)) (.pointer (some ⟨A, 0, none⟩)) (.pointer (some ⟨A, 1, none⟩)) (.pointer (some ⟨A, 0, none⟩)) (.pointer (some ⟨p, o, none⟩)) (.pointer (some ⟨A, 0, none⟩)) (.pointer (some ⟨A, 0, none⟩)) (.pointer (some ⟨A, 2, none⟩)) (.agg (rowA 8 (pend F))) undef undef undef undef undef undef undef undef undef undef undef undef undef undef undef undef undef undef undef undef undef undef undef undef undef) (by kernel_rfl) ?_
    refine wpAnyH_take (i := 6) rfl (by kernel_rfl) (by kernel_rfl) (by kernel_rfl) (fun _ _ _ h => nomatch h.1) (yields_row 32 (.tmp 5) s 8 i 32 _ (by kernel_rfl) rfl (by kernel_rfl) (fun _ s => s.b) Try.underlying32 rfl imuSize) hs ?_
    refine wpAnyH_as (b := actP A p o s i (.bool false) (.int .i64 0) (.agg (rowA 8 i)) (.bool true) (.bool false) (.bool false) (.pointer (some ⟨s, 0, none⟩)) (.int .i64 (i 0)) (.pointer (some ⟨A, 0, none⟩)) (.pointer (some ⟨A, 0, none⟩)) (.pointer (some ⟨A, 1, none⟩)) (.int .i64 (F 1)) (.bool false) (.bool false) undef (.pointer (some ⟨A, 0, none⟩)) (.pointer (some ⟨s, 0, none⟩)) (.int .i64 (i 0)) (.pointer (some ⟨A, 0, none⟩)) (.pointer (some ⟨A, 1, none⟩)) (.pointer (some ⟨A, 0, none⟩)) (.pointer (some ⟨p, o, none⟩)) (.pointer (some ⟨A, 0, none⟩)) (.pointer (some ⟨A, 0, none⟩)) (.pointer (some ⟨A, 2, none⟩)) (.agg (rowA 8 (pend F))) (.agg (rowA 8 i)) undef undef undef undef undef undef undef undef undef undef undef undef undef undef undef undef undef undef undef undef undef undef undef undef) (by kernel_rfl) ?_
    refine wpAnyH_all (rs := [7]) (by kernel_rfl) (by simp) ?_
    intro j hj
    obtain rfl : j = 7 := by simpa using hj
    refine wpOp_value (by kernel_rfl) (by kernel_rfl) (w' := World.alloc W0 (.cells (rowA 16 fun k => if k < 8 then pend F k else i (k - 8)) 32)) (v := .slice (some ⟨W0.heap.size, 0, none⟩) 2 2) (by kernel_rfl) ?_
    have fB : Blk (World.alloc W0 (.cells (rowA 16 fun k => if k < 8 then pend F k else i (k - 8)) 32)) W0.heap.size (rowA 16 fun k => if k < 8 then pend F k else i (k - 8)) 32 := Blk.made _ _ _ rfl
    have nB : W0.heap.size ≠ p := by have := hs.F.size; omega
    replace hs := hs.alloc (.cells (rowA 16 fun k => if k < 8 then pend F k else i (k - 8)) 32)
    generalize World.alloc W0 _ = W1 at *
    generalize W0.heap.size = B at *
    refine ⟨hs, ?_⟩
    refine wpAnyH_as (b := actP A p o s i (.bool false) (.int .i64 0) (.agg (rowA 8 i)) (.bool true) (.bool false) (.bool false) (.pointer (some ⟨s, 0, none⟩)) (.int .i64 (i 0)) (.pointer (some ⟨A, 0, none⟩)) (.pointer (some ⟨A, 0, none⟩)) (.pointer (some ⟨A, 1, none⟩)) (.int .i64 (F 1)) (.bool false) (.bool false) undef (.pointer (some ⟨A, 0, none⟩)) (.pointer (some ⟨s, 0, none⟩)) (.int .i64 (i 0)) (.pointer (some ⟨A, 0, none⟩)) (.pointer (some ⟨A, 1, none⟩)) (.pointer (some ⟨A, 0, none⟩)) (.pointer (some ⟨p, o, none⟩)) (.pointer (some ⟨A, 0, none⟩)) (.pointer (some ⟨A, 0, none⟩)) (.pointer (some ⟨A, 2, none⟩)) (.agg (rowA 8 (pend F))) (.agg (rowA 8 i)) (.slice (some ⟨B, 0, none⟩) 2 2) undef undef undef undef undef undef undef undef undef undef undef undef undef undef undef undef undef undef undef undef undef undef undef) (by kernel_rfl) ?_
    refine wpAnyH_all (rs := [8]) (by kernel_rfl) (by simp) ?_
    intro j hj
    obtain rfl : j = 8 := by simpa using hj
    refine wpOp_call (by kernel_rfl) (by kernel_rfl) (by kernel_rfl) (sum2_any p o B 2 (pend F) i h W1 (hs.F.fl fX) fB nB HM.out.1 HM.out.2) ?_
    intro W2 kf
    replace hs := hs.flag hpq kf
    clear kf fB nB
    refine ⟨hs, ?_⟩
    refine wpAnyH_as (b := actP A p o s i (.bool false) (.int .i64 0) (.agg (rowA 8 i)) (.bool true) (.bool false) (.bool false) (.pointer (some ⟨s, 0, none⟩)) (.int .i64 (i 0)) (.pointer (some ⟨A, 0, none⟩)) (.pointer (some ⟨A, 0, none⟩)) (.pointer (some ⟨A, 1, none⟩)) (.int .i64 (F 1)) (.bool false) (.bool false) undef (.pointer (some ⟨A, 0, none⟩)) (.pointer (some ⟨s, 0, none⟩)) (.int .i64 (i 0)) (.pointer (some ⟨A, 0, none⟩)) (.pointer (some ⟨A, 1, none⟩)) (.pointer (some ⟨A, 0, none⟩)) (.pointer (some ⟨p, o, none⟩)) (.pointer (some ⟨A, 0, none⟩)) (.pointer (some ⟨A, 0, none⟩)) (.pointer (some ⟨A, 2, none⟩)) (.agg (rowA 8 (pend F))) (.agg (rowA 8 i)) (.slice (some ⟨B, 0, none⟩) 2 2) (.agg (rowA 8 (whole F i))) undef undef undef undef undef undef undef undef undef undef undef undef undef undef undef undef undef undef undef undef undef undef) (by kernel_rfl) ?_
    refine wpAnyH_take (i := 9) rfl (by kernel_rfl) (by kernel_rfl) (by kernel_rfl) (fun _ _ _ h => nomatch h.1) (yields_pure (v := .pointer (some ⟨A, 0, none⟩)) (by kernel_rfl) (fun _ => by kernel_rfl)) hs ?_
    refine wpAnyH_as (b := actP A p o s i (.bool false) (.int .i64 0) (.agg (rowA 8 i)) (.bool true) (.bool false) (.bool false) (.pointer (some ⟨s, 0, none⟩)) (.int .i64 (i 0)) (.pointer (some ⟨A, 0, none⟩)) (.pointer (some ⟨A, 0, none⟩)) (.pointer (some ⟨A, 1, none⟩)) (.int .i64 (F 1)) (.bool false) (.bool false) undef (.pointer (some ⟨A, 0, none⟩)) (.pointer (some ⟨s, 0, none⟩)) (.int .i64 (i 0)) (.pointer (some ⟨A, 0, none⟩)) (.pointer (some ⟨A, 1, none⟩)) (.pointer (some ⟨A, 0, none⟩)) (.pointer (some ⟨p, o, none⟩)) (.pointer (some ⟨A, 0, none⟩)) (.pointer (some ⟨A, 0, none⟩)) (.pointer (some ⟨A, 2, none⟩)) (.agg (rowA 8 (pend F))) (.agg (rowA 8 i)) (.slice (some ⟨B, 0, none⟩) 2 2) (.agg (rowA 8 (whole F i))) (.pointer (some ⟨A, 0, none⟩)) undef undef undef undef undef undef undef undef undef undef undef undef undef undef undef undef undef undef undef undef undef) (by kernel_rfl) ?_
    refine wpAnyH_take (i := 10) rfl (by kernel_rfl) (by kernel_rfl) (by kernel_rfl) (fun _ _ _ h => nomatch h.1) (yields_pure (v := .pointer (some ⟨A, 2, none⟩)) (by kernel_rfl) (fun _ => by kernel_rfl)) hs ?_
    refine wpAnyH_as (b := actP A p o s i (.bool false) (.int .i64 0) (.agg (rowA 8 i)) (.bool true) (.bool false) (.bool false) (.pointer (some ⟨s, 0, none⟩)) (.int .i64 (i 0)) (.pointer (some ⟨A, 0, none⟩)) (.pointer (some ⟨A, 0, none⟩)) (.pointer (some ⟨A, 1, none⟩)) (.int .i64 (F 1)) (.bool false) (.bool false) undef (.pointer (some ⟨A, 0, none⟩)) (.pointer (some ⟨s, 0, none⟩)) (.int .i64 (i 0)) (.pointer (some ⟨A, 0, none⟩)) (.pointer (some ⟨A, 1, none⟩)) (.pointer (some ⟨A, 0, none⟩)) (.pointer (some ⟨p, o, none⟩)) (.pointer (some ⟨A, 0, none⟩)) (.pointer (some ⟨A, 0, none⟩)) (.pointer (some ⟨A, 2, none⟩)) (.agg (rowA 8 (pend F))) (.agg (rowA 8 i)) (.slice (some ⟨B, 0, none⟩) 2 2) (.agg (rowA 8 (whole F i))) (.pointer (some ⟨A, 0, none⟩)) (.pointer (some ⟨A, 2, none⟩)) undef undef undef undef undef undef undef undef undef undef undef undef undef undef undef undef undef undef undef undef) (by kernel_rfl) ?_
    refine wpAnyH_done (by kernel_rfl) ?_ _
    exact ⟨rfl, .slice (some ⟨B, 0, none⟩) 2 2, by kernel_rfl, hs⟩
  · rintro w2 u ⟨W, hs, rfl⟩
    have f2 : Fl p o h (putI W A 2 8 (whole F i)) := by
      have k := hs.F.fl fX1
      have kk : Tch [A] W (putI W A 2 8 (whole F i)) := (Tch.refl _ _).putI (.inl (by simp)) _ _ _
      exact ⟨by rw [kk.cell k.lt (by simp; omega)]; exact k.cell, by rw [frozen_same (kk.block p k.lt (by simp; omega))]; exact k.free, Nat.lt_of_lt_of_le k.lt kk.size⟩
    have hA : Blk (putI W A 2 8 (whole F i)) A (rowA 10 fun k => if 2 ≤ k ∧ k < 2 + 8 then whole F i (k - 2) else F1 k) 77 := putI_blk hs.a (by omega)
    have hr : Blk (putI W A 2 8 (whole F i)) (s + 1) (rowA 8 fun _ => 0) 32 := putI_other hs.r (by omega)
    have t2 : Tch [p, A] w (putI W A 2 8 (whole F i)) := (tX.then (Tch.flag hs.F) (fun b hb => .inl (by simp at hb; simp [hb]))).putI (.inl (by simp)) _ _ _
    generalize putI W A 2 8 (whole F i) = w2 at *
    clear hs tX aX sX rX
    generalize hF2 : (fun k => if 2 ≤ k ∧ k < 2 + 8 then whole F i (k - 2) else F1 k) = F2 at *
    have e3 : F2 3 = whole F i 1 := by rw [← hF2]; rfl
    have e0 : F2 0 = F 0 := by rw [← hF2]; exact hG0
    have HF2 := Lib.hid hF2
    clear hF2
    unfold actP
    go_upto_region 5 with (fail)
    refine rg_in (Below w2.heap.size w2) (by kernel_rfl) (by kernel_rfl) (Below.refl _ _).drew ?_
    refine rq_start ?_
    refine rq_as (b := actP A p o s i (.bool false) (.int .i64 0) (.agg (rowA 8 i)) (.bool true) (.bool false) (.bool false) (.pointer (some ⟨s, 0, none⟩)) (.int .i64 (i 0)) (.pointer (some ⟨A, 0, none⟩)) (.pointer (some ⟨A, 0, none⟩)) (.pointer (some ⟨A, 1, none⟩)) (.int .i64 (F 1)) (.bool false) (.bool false) undef (.pointer (some ⟨A, 0, none⟩)) (.pointer (some ⟨s, 0, none⟩)) (.int .i64 (i 0)) (.pointer (some ⟨A, 0, none⟩)) (.pointer (some ⟨A, 1, none⟩)) (u 28) (u 29) (u 30) (u 31) (u 32) (u 33) (u 34) (u 35) (u 36) (u 37) (u 38) undef undef undef undef undef undef undef undef undef undef undef undef undef undef undef undef undef undef undef undef) (by kernel_rfl) ?_
    refine rq_pure (.pointer (some ⟨A, 0, none⟩)) (by kernel_rfl) (fun _ => by kernel_rfl) ?_
    refine rq_as (b := actP A p o s i (.bool false) (.int .i64 0) (.agg (rowA 8 i)) (.bool true) (.bool false) (.bool false) (.pointer (some ⟨s, 0, none⟩)) (.int .i64 (i 0)) (.pointer (some ⟨A, 0, none⟩)) (.pointer (some ⟨A, 0, none⟩)) (.pointer (some ⟨A, 1, none⟩)) (.int .i64 (F 1)) (.bool false) (.bool false) undef (.pointer (some ⟨A, 0, none⟩)) (.pointer (some ⟨s, 0, none⟩)) (.int .i64 (i 0)) (.pointer (some ⟨A, 0, none⟩)) (.pointer (some ⟨A, 1, none⟩)) (u 28) (u 29) (u 30) (u 31) (u 32) (u 33) (u 34) (u 35) (u 36) (u 37) (u 38) (.pointer (some ⟨A, 0, none⟩)) undef undef undef undef undef undef undef undef undef undef undef undef undef undef undef undef undef undef undef) (by kernel_rfl) ?_
    refine rq_pure (.pointer (some ⟨A, 0, none⟩)) (by kernel_rfl) (fun _ => by kernel_rfl) ?_
    refine rq_as (b := actP A p o s i (.bool false) (.int .i64 0) (.agg (rowA 8 i)) (.bool true) (.bool false) (.bool false) (.pointer (some ⟨s, 0, none⟩)) (.int .i64 (i 0)) (.pointer (some ⟨A, 0, none⟩)) (.pointer (some ⟨A, 0, none⟩)) (.pointer (some ⟨A, 1, none⟩)) (.int .i64 (F 1)) (.bool false) (.bool false) undef (.pointer (some ⟨A, 0, none⟩)) (.pointer (some ⟨s, 0, none⟩)) (.int .i64 (i 0)) (.pointer (some ⟨A, 0, none⟩)) (.pointer (some ⟨A, 1, none⟩)) (u 28) (u 29) (u 30) (u 31) (u 32) (u 33) (u 34) (u 35) (u 36) (u 37) (u 38) (.pointer (some ⟨A, 0, none⟩)) (.pointer (some ⟨A, 0, none⟩)) undef undef undef undef undef undef undef undef undef undef undef undef undef undef undef undef undef undef) (by kernel_rfl) ?_
    refine rq_pure (.pointer (some ⟨A, 2, none⟩)) (by kernel_rfl) (fun _ => by kernel_rfl) ?_
    refine rq_as (b := actP A p o s i (.bool false) (.int .i64 0) (.agg (rowA 8 i)) (.bool true) (.bool false) (.bool false) (.pointer (some ⟨s, 0, none⟩)) (.int .i64 (i 0)) (.pointer (some ⟨A, 0, none⟩)) (.pointer (some ⟨A, 0, none⟩)) (.pointer (some ⟨A, 1, none⟩)) (.int .i64 (F 1)) (.bool false) (.bool false) undef (.pointer (some ⟨A, 0, none⟩)) (.pointer (some ⟨s, 0, none⟩)) (.int .i64 (i 0)) (.pointer (some ⟨A, 0, none⟩)) (.pointer (some ⟨A, 1, none⟩)) (u 28) (u 29) (u 30) (u 31) (u 32) (u 33) (u 34) (u 35) (u 36) (u 37) (u 38) (.pointer (some ⟨A, 0, none⟩)) (.pointer (some ⟨A, 0, none⟩)) (.pointer (some ⟨A, 2, none⟩)) undef undef undef undef undef undef undef undef undef undef undef undef undef undef undef undef undef) (by kernel_rfl) ?_
    refine rq_pure (.pointer (some ⟨A, 3, none⟩)) (by kernel_rfl) (fun _ => by kernel_rfl) ?_
    refine rq_as (b := actP A p o s i (.bool false) (.int .i64 0) (.agg (rowA 8 i)) (.bool true) (.bool false) (.bool false) (.pointer (some ⟨s, 0, none⟩)) (.int .i64 (i 0)) (.pointer (some ⟨A, 0, none⟩)) (.pointer (some ⟨A, 0, none⟩)) (.pointer (some ⟨A, 1, none⟩)) (.int .i64 (F 1)) (.bool false) (.bool false) undef (.pointer (some ⟨A, 0, none⟩)) (.pointer (some ⟨s, 0, none⟩)) (.int .i64 (i 0)) (.pointer (some ⟨A, 0, none⟩)) (.pointer (some ⟨A, 1, none⟩)) (u 28) (u 29) (u 30) (u 31) (u 32) (u 33) (u 34) (u 35) (u 36) (u 37) (u 38) (.pointer (some ⟨A, 0, none⟩)) (.pointer (some ⟨A, 0, none⟩)) (.pointer (some ⟨A, 2, none⟩)) (.pointer (some ⟨A, 3, none⟩)) undef undef undef undef undef undef undef undef undef undef undef undef undef undef undef undef) (by kernel_rfl) ?_
    refine rq_i64 (.tmp 42) A 3 (F2 3) (by kernel_rfl) rfl (by kernel_rfl) (fun w hc => (hA.below hc hA.lt).cell 3) ?_
    refine rq_as (b := actP A p o s i (.bool false) (.int .i64 0) (.agg (rowA 8 i)) (.bool true) (.bool false) (.bool false) (.pointer (some ⟨s, 0, none⟩)) (.int .i64 (i 0)) (.pointer (some ⟨A, 0, none⟩)) (.pointer (some ⟨A, 0, none⟩)) (.pointer (some ⟨A, 1, none⟩)) (.int .i64 (F 1)) (.bool false) (.bool false) undef (.pointer (some ⟨A, 0, none⟩)) (.pointer (some ⟨s, 0, none⟩)) (.int .i64 (i 0)) (.pointer (some ⟨A, 0, none⟩)) (.pointer (some ⟨A, 1, none⟩)) (u 28) (u 29) (u 30) (u 31) (u 32) (u 33) (u 34) (u 35) (u 36) (u 37) (u 38) (.pointer (some ⟨A, 0, none⟩)) (.pointer (some ⟨A, 0, none⟩)) (.pointer (some ⟨A, 2, none⟩)) (.pointer (some ⟨A, 3, none⟩)) (.int .i64 (F2 3)) undef undef undef undef undef undef undef undef undef undef undef undef undef undef undef) (by kernel_rfl) ?_
    refine rq_pure (.pointer (some ⟨A, 0, none⟩)) (by kernel_rfl) (fun _ => by kernel_rfl) ?_
    refine rq_as (b := actP A p o s i (.bool false) (.int .i64 0) (.agg (rowA 8 i)) (.bool true) (.bool false) (.bool false) (.pointer (some ⟨s, 0, none⟩)) (.int .i64 (i 0)) (.pointer (some ⟨A, 0, none⟩)) (.pointer (some ⟨A, 0, none⟩)) (.pointer (some ⟨A, 1, none⟩)) (.int .i64 (F 1)) (.bool false) (.bool false) undef (.pointer (some ⟨A, 0, none⟩)) (.pointer (some ⟨s, 0, none⟩)) (.int .i64 (i 0)) (.pointer (some ⟨A, 0, none⟩)) (.pointer (some ⟨A, 1, none⟩)) (u 28) (u 29) (u 30) (u 31) (u 32) (u 33) (u 34) (u 35) (u 36) (u 37) (u 38) (.pointer (some ⟨A, 0, none⟩)) (.pointer (some ⟨A, 0, none⟩)) (.pointer (some ⟨A, 2, none⟩)) (.pointer (some ⟨A, 3, none⟩)) (.int .i64 (F2 3)) (.pointer (some ⟨A, 0, none⟩)) undef undef undef undef undef undef undef undef undef undef undef undef undef undef) (by kernel_rfl) ?_
    refine rq_pure (.pointer (some ⟨A, 0, none⟩)) (by kernel_rfl) (fun _ => by kernel_rfl) ?_
    refine rq_as (b := actP A p o s i (.bool false) (.int .i64 0) (.agg (rowA 8 i)) (.bool true) (.bool false) (.bool false) (.pointer (some ⟨s, 0, none⟩)) (.int .i64 (i 0)) (.pointer (some ⟨A, 0, none⟩)) (.pointer (some ⟨A, 0, none⟩)) (.pointer (some ⟨A, 1, none⟩)) (.int .i64 (F 1)) (.bool false) (.bool false) undef (.pointer (some ⟨A, 0, none⟩)) (.pointer (some ⟨s, 0, none⟩)) (.int .i64 (i 0)) (.pointer (some ⟨A, 0, none⟩)) (.pointer (some ⟨A, 1, none⟩)) (u 28) (u 29) (u 30) (u 31) (u 32) (u 33) (u 34) (u 35) (u 36) (u 37) (u 38) (.pointer (some ⟨A, 0, none⟩)) (.pointer (some ⟨A, 0, none⟩)) (.pointer (some ⟨A, 2, none⟩)) (.pointer (some ⟨A, 3, none⟩)) (.int .i64 (F2 3)) (.pointer (some ⟨A, 0, none⟩)) (.pointer (some ⟨A, 0, none⟩)) undef undef undef undef undef undef undef undef undef undef undef undef undef) (by kernel_rfl) ?_
    refine rq_pure (.pointer (some ⟨A, 0, none⟩)) (by kernel_rfl) (fun _ => by kernel_rfl) ?_
    refine rq_as (b := actP A p o s i (.bool false) (.int .i64 0) (.agg (rowA 8 i)) (.bool true) (.bool false) (.bool false) (.pointer (some ⟨s, 0, none⟩)) (.int .i64 (i 0)) (.pointer (some ⟨A, 0, none⟩)) (.pointer (some ⟨A, 0, none⟩)) (.pointer (some ⟨A, 1, none⟩)) (.int .i64 (F 1)) (.bool false) (.bool false) undef (.pointer (some ⟨A, 0, none⟩)) (.pointer (some ⟨s, 0, none⟩)) (.int .i64 (i 0)) (.pointer (some ⟨A, 0, none⟩)) (.pointer (some ⟨A, 1, none⟩)) (u 28) (u 29) (u 30) (u 31) (u 32) (u 33) (u 34) (u 35) (u 36) (u 37) (u 38) (.pointer (some ⟨A, 0, none⟩)) (.pointer (some ⟨A, 0, none⟩)) (.pointer (some ⟨A, 2, none⟩)) (.pointer (some ⟨A, 3, none⟩)) (.int .i64 (F2 3)) (.pointer (some ⟨A, 0, none⟩)) (.pointer (some ⟨A, 0, none⟩)) (.pointer (some ⟨A, 0, none⟩)) undef undef undef undef undef undef undef undef undef undef undef undef) (by kernel_rfl) ?_
    refine rq_i64 (.tmp 46) A 0 (F2 0) (by kernel_rfl) rfl (by kernel_rfl) (fun w hc => (hA.below hc hA.lt).cell 0) ?_
    refine rq_as (b := actP A p o s i (.bool false) (.int .i64 0) (.agg (rowA 8 i)) (.bool true) (.bool false) (.bool false) (.pointer (some ⟨s, 0, none⟩)) (.int .i64 (i 0)) (.pointer (some ⟨A, 0, none⟩)) (.pointer (some ⟨A, 0, none⟩)) (.pointer (some ⟨A, 1, none⟩)) (.int .i64 (F 1)) (.bool false) (.bool false) undef (.pointer (some ⟨A, 0, none⟩)) (.pointer (some ⟨s, 0, none⟩)) (.int .i64 (i 0)) (.pointer (some ⟨A, 0, none⟩)) (.pointer (some ⟨A, 1, none⟩)) (u 28) (u 29) (u 30) (u 31) (u 32) (u 33) (u 34) (u 35) (u 36) (u 37) (u 38) (.pointer (some ⟨A, 0, none⟩)) (.pointer (some ⟨A, 0, none⟩)) (.pointer (some ⟨A, 2, none⟩)) (.pointer (some ⟨A, 3, none⟩)) (.int .i64 (F2 3)) (.pointer (some ⟨A, 0, none⟩)) (.pointer (some ⟨A, 0, none⟩)) (.pointer (some ⟨A, 0, none⟩)) (.int .i64 (F2 0)) undef undef undef undef undef undef undef undef undef undef undef) (by kernel_rfl) ?_
    refine rq_pure (.bool (decide (F2 3 < F2 0))) (by kernel_rfl) (fun _ => by kernel_rfl) ?_
    refine rq_as (b := actP A p o s i (.bool false) (.int .i64 0) (.agg (rowA 8 i)) (.bool true) (.bool false) (.bool false) (.pointer (some ⟨s, 0, none⟩)) (.int .i64 (i 0)) (.pointer (some ⟨A, 0, none⟩)) (.pointer (some ⟨A, 0, none⟩)) (.pointer (some ⟨A, 1, none⟩)) (.int .i64 (F 1)) (.bool false) (.bool false) undef (.pointer (some ⟨A, 0, none⟩)) (.pointer (some ⟨s, 0, none⟩)) (.int .i64 (i 0)) (.pointer (some ⟨A, 0, none⟩)) (.pointer (some ⟨A, 1, none⟩)) (u 28) (u 29) (u 30) (u 31) (u 32) (u 33) (u 34) (u 35) (u 36) (u 37) (u 38) (.pointer (some ⟨A, 0, none⟩)) (.pointer (some ⟨A, 0, none⟩)) (.pointer (some ⟨A, 2, none⟩)) (.pointer (some ⟨A, 3, none⟩)) (.int .i64 (F2 3)) (.pointer (some ⟨A, 0, none⟩)) (.pointer (some ⟨A, 0, none⟩)) (.pointer (some ⟨A, 0, none⟩)) (.int .i64 (F2 0)) (.bool (decide (F2 3 < F2 0))) undef undef undef undef undef undef undef undef undef undef) (by kernel_rfl) ?_
    refine rq_nil fun w3 hb => ?_
    have f3 := f2.below hb
    have A3 := hA.below hb hA.lt
    have r3 := hr.below hb hr.lt
    have t3 := t2.call hb
    have tk : took F i = true := by unfold took; rw [hk, decide_eq_true (by omega)]; rfl
    clear f2 hA hr t2 hb
    unfold actP
    by_cases hlt : F2 3 < F2 0
    · have td : told F i = false := by unfold told; rw [tk, decide_eq_false (by omega)]; rfl
      have HT := Lib.hid (And.intro tk td)
      clear tk td
      go_wp2_with ((with_reducible refine row_store 32 (.tmp 6) (.tmp 49) ?_ ?_ (s + 1) 8 (fun _ => 0) (fun _ => 0) 32 ?_ ?_ r3 imuSize ?_); rfl; rfl; rfl; rfl)
      refine bodyPost_ret (v := .tuple #[.agg (rowA 8 fun _ => 0), .bool false, .int .i64 0]) (results_rowTT rfl _ _ (s + 1) 8 _ _ _ rfl r3.setRow Try.underlying32 rfl imuSize rfl rfl) rfl ⟨?_, fl_row f3 (by omega) _, (A3.otherRow (by omega)).congr fun j hj => ?_, t3.row (.inr (by omega)) _⟩
      · rw [HT.out.2, rowA_congr (g := toldR F i) fun j hj => by unfold toldR; rw [HT.out.2]; rfl]
      · rw [← HF2.out]
        show (if 2 ≤ j ∧ j < 2 + 8 then whole F i (j - 2) else F1 j) = nextF F i j
        unfold nextF
        rw [HT.out.1, HT.out.2, if_pos rfl]
        by_cases j0 : j = 0
        · subst j0; exact hG0
        · by_cases j1 : j = 1
          · subst j1; exact hG1
          · rw [if_neg j0, if_neg j1, if_pos (by omega), if_neg (by simp)]
    · have td : told F i = true := by unfold told; rw [tk, decide_eq_true (by omega)]; rfl
      have HT := Lib.hid (And.intro tk td)
      clear tk td
      have hI : Ints w3 A 2 8 (whole F i) := ⟨fun j hj => by
        rw [A3.cell, rowA_get _ (by omega), ← HF2.out]
        show some (Value.int .i64 (if 2 ≤ 2 + j ∧ 2 + j < 2 + 8 then whole F i (2 + j - 2) else F1 (2 + j))) = _
        rw [if_pos (by omega), Nat.add_sub_cancel_left]⟩
      have hZ : Blk (w3.alloc (.cells #[.int .i64 0, .int .i64 0, .int .i64 0, .int .i64 0, .int .i64 0, .int .i64 0, .int .i64 0, .int .i64 0] 32)) w3.heap.size (rowA 8 fun _ => 0) 32 := Blk.made _ _ _ rfl
      have AZ := (A3.alloc (.cells #[.int .i64 0, .int .i64 0, .int .i64 0, .int .i64 0, .int .i64 0, .int .i64 0, .int .i64 0, .int .i64 0] 32)).otherRow (b := w3.heap.size) (d := rowA 8 (whole F i)) (Nat.ne_of_lt A3.lt)
      have rZ := (r3.alloc (.cells #[.int .i64 0, .int .i64 0, .int .i64 0, .int .i64 0, .int .i64 0, .int .i64 0, .int .i64 0, .int .i64 0] 32)).otherRow (b := w3.heap.size) (d := rowA 8 (whole F i)) (Nat.ne_of_lt r3.lt)
      have fZ := fl_row (f3.alloc (.cells #[.int .i64 0, .int .i64 0, .int .i64 0, .int .i64 0, .int .i64 0, .int .i64 0, .int .i64 0, .int .i64 0] 32)) (b := w3.heap.size) (Nat.ne_of_lt f3.lt) (rowA 8 (whole F i))
      have tZ := (t3.alloc (.cells #[.int .i64 0, .int .i64 0, .int .i64 0, .int .i64 0, .int .i64 0, .int .i64 0, .int .i64 0, .int .i64 0] 32)).row (b := w3.heap.size) (.inr t3.size) (rowA 8 (whole F i))
      have yZ := hZ.setRow (d := rowA 8 (whole F i))
      have hAy : A ≠ w3.heap.size := Nat.ne_of_lt A3.lt
      have hry : s + 1 ≠ w3.heap.size := Nat.ne_of_lt r3.lt
      clear f3 A3 r3 t3
      go_upto_region 8 with (first
        | ((with_reducible refine mid_load 32 (.tmp 52) ?_ ?_ A 2 8 (whole F i) ?_ hI _ Try.underlying32 ?_ imuSize ?_); rfl; rfl; rfl; rfl)
        | ((with_reducible refine row_store 32 (.tmp 9) (.tmp 53) ?_ ?_ w3.heap.size 8 (whole F i) (fun _ => 0) 32 ?_ ?_ hZ imuSize ?_); rfl; rfl; rfl; rfl))
      clear hZ hI
      generalize World.setRow _ w3.heap.size _ = Y at *
      generalize w3.heap.size = y at *
      have AQ : Blk (putI Y A 2 8 fun _ => 0) A _ 77 := putI_blk AZ (by omega)
      have yQ : Blk (putI Y A 2 8 fun _ => 0) y (rowA 8 (whole F i)) 32 := putI_other yZ (by omega)
      have rQ : Blk (putI Y A 2 8 fun _ => 0) (s + 1) (rowA 8 fun _ => 0) 32 := putI_other rZ (by omega)
      have fQ : Fl p o h (putI Y A 2 8 fun _ => 0) := fl_put fZ (by omega)
      have tQ : Tch [p, A] w (putI Y A 2 8 fun _ => 0) := tZ.putI (.inl (by simp)) _ _ _
      have AZ' := AZ
      clear AZ yZ rZ fZ tZ
      go_upto_region 9 with ((with_reducible refine mid_store 32 (.tmp 57) (.tmp 55) ?_ ?_ A 2 8 10 (fun _ => 0) F2 77 ?_ ?_ AZ' (by omega) imuSize ?_); rfl; rfl; rfl; rfl)
      clear AZ'
      generalize putI Y A 2 8 (fun _ => 0) = Z at *
      go_wp2_with (first
        | ((with_reducible refine row_load 32 (.tmp 9) ?_ ?_ y 8 (whole F i) 32 ?_ yQ _ Try.underlying32 ?_ imuSize ?_); rfl; rfl; rfl; rfl)
        | ((with_reducible refine row_store 32 (.tmp 6) (.tmp 58) ?_ ?_ (s + 1) 8 (whole F i) (fun _ => 0) 32 ?_ ?_ rQ imuSize ?_); rfl; rfl; rfl; rfl))
      refine bodyPost_ret (v := .tuple #[.agg (rowA 8 (whole F i)), .bool true, .int .i64 0]) (results_rowTT rfl _ _ (s + 1) 8 _ _ _ rfl rQ.setRow Try.underlying32 rfl imuSize rfl rfl) rfl ⟨?_, fl_row fQ (by omega) _, (AQ.otherRow (by omega)).congr fun j hj => ?_, tQ.row (.inr (by omega)) _⟩
      · rw [HT.out.2, rowA_congr (g := toldR F i) fun j hj => by unfold toldR; rw [HT.out.2]; rfl]
      · show (if 2 ≤ j ∧ j < 2 + 8 then 0 else F2 j) = nextF F i j
        unfold nextF
        rw [HT.out.1, HT.out.2, if_pos rfl, ← HF2.out]
        by_cases j0 : j = 0
        · subst j0; exact hG0
        · by_cases j1 : j = 1
          · subst j1; exact hG1
          · rw [if_neg j0, if_neg j1, if_pos (by omega), if_pos rfl]
end Go.Proofs.Ytdndomknjefgkaa.Rg
