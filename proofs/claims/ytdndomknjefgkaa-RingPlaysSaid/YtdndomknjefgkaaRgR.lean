/- The document's own: a sample is put in where there is none. -/
import Derived.Test.YtdndomknjefgkaaRgQ
namespace Go.Proofs.Ytdndomknjefgkaa.Rg
open Go.RowKit
set_option maxRecDepth 100000 in
set_option maxHeartbeats 32000000 in
theorem rput_none (A : Nat) (b : Ring) (x : Sam) (w : World) (h : RBuf w A (.slice none 0 0) b) (hl : b.l = []) (hs : b.cIn < 1000000) (hx : x.length = 9) (hz1 : 1 ≤ b.size) (hz2 : b.size ≤ 200) (hz3 : b.l.length ≤ b.size) :
    Calls Try.prog 21 #[.pointer (some ⟨A, 0, none⟩), .agg (rowA 9 (fn x))] w (RPut A (.slice none 0 0) b x w) := by
  have hAw := h.blk.lt
  have hsum := h.sum
  have H := Lib.hid h
  have HS := Lib.hid hsum
  have w1 : IntKind.i64.wrap ((b.cIn : Int) + 1) = (b.cIn : Int) + 1 := by rw [IntKind.wrap_i64]; omega
  have w2 : IntKind.i64.wrap ((b.late : Int) + 1) = (b.late : Int) + 1 := by rw [IntKind.wrap_i64]; omega
  have w3 : IntKind.i64.wrap ((b.full : Int) + 1) = (b.full : Int) + 1 := by rw [IntKind.wrap_i64]; omega
  clear hsum
  go_enter Try.func21, Try.ntmps21
  go_upto_region 1 with (fail)
  generalize hW : World.alloc w _ = X
  have hT : Tch [A] w X := by subst hW; exact (Tch.refl _ _).alloc _
  have hB : Blk X A (rbufC b (.slice none 0 0)) 73 := by subst hW; exact h.blk.alloc _
  have hS : Blk X w.heap.size (rowA 9 (fn x)) 56 := by subst hW; exact Blk.made _ _ _ rfl
  have hsz : X.heap.size = w.heap.size + 1 := by subst hW; simp
  clear hW h
  have c0 := hB.cell 3
  have f0 := hB.free 3
  simp only [rbufC] at c0
  go_region_law (fail)
  clear c0 f0
  replace hB := blk_setC (i := 3) (u := .int .i64 ((b.cIn : Int) + 1)) hB rfl
  replace hS := hS.other (b := A) (i := 3) (by omega) (.int .i64 ((b.cIn : Int) + 1))
  replace hT := hT.set (b := A) (.inl (List.mem_cons_self ..)) 3 (.int .i64 ((b.cIn : Int) + 1))
  have hsz1 : (X.setCell ⟨A, 3, none⟩ (.int .i64 ((b.cIn : Int) + 1))).heap.size = w.heap.size + 1 := by rw [size_set]; exact hsz
  replace hB := hB.drew
  replace hS := hS.drew
  replace hT := hT.drew
  replace hsz1 : (X.setCell ⟨A, 3, none⟩ (.int .i64 ((b.cIn : Int) + 1))).drew.heap.size = w.heap.size + 1 := hsz1
  generalize hY : World.drew _ = Y at *
  clear hY hsz
  have c7 := hB.cell 2
  simp [rbufC] at c7
  have s0 := hS.cell 0
  rw [rowA_get _ (by omega)] at s0
  go_upto_region 2 with (fail)
  by_cases hle : fn x 0 ≤ b.hor
  · go_quiet (fail)
    have c1 := hB.cell 4
    have f1 := hB.free 4
    simp [rbufC] at c1
    go_upto_region 3 with (fail)
    go_region_law (fail)
    go_wp2
    go_ret
    have hp : b.putR x = false := by unfold Ring.putR; rw [if_pos hle]
    have hq : b.put x = { b with cIn := b.cIn + 1, late := b.late + 1 } := by unfold Ring.put; rw [if_pos hle]
    have T3 := (show Tch [A] w (Y.drewN nq) from ⟨hT.os, hT.tape, hT.output, hT.size, hT.block⟩).set (b := A) (.inl (List.mem_cons_self ..)) 4 (.int .i64 ((b.late : Int) + 1))
    refine ⟨by rw [hp]; rfl, _, ?_, T3.drew, fun q hq => .inl hq⟩
    rw [hq]
    refine ⟨blk_is (blk_setC (i := 4) (u := .int .i64 ((b.late : Int) + 1)) (show Blk (Y.drewN nq) A _ _ from hB) rfl).drew (by simp [rbufC]), H.out.row.keep T3.drew (fun q hq => by have := H.out.ne; simp; rintro rfl; exact this hq), H.out.ne, H.out.srt, H.out.nine, H.out.len, ?_⟩
    have := HS.out
    simp; omega
  · have HLE := Lib.hid hle
    go_quiet (fail)
    go_upto_region 5 with (fail)
    have hBZ : Blk (Y.drewN nq) A _ _ := hB
    have hSZ : Blk (Y.drewN nq) w.heap.size _ _ := hS
    have hTZ : Tch [A] w (Y.drewN nq) := ⟨hT.os, hT.tape, hT.output, hT.size, hT.block⟩
    clear hB hS hT hsz1 c7 s0
    generalize Y.drewN nq = Z at *
    have hAZ : A < Z.heap.size := hBZ.lt
    have hSl : w.heap.size < Z.heap.size := hSZ.lt
    have c5 := hBZ.cell 1
    simp [rbufC] at c5
    have HB := Lib.hid (And.intro hBZ (And.intro hSZ hTZ))
    clear hBZ hSZ hTZ w1 w2 w3 hle
    go_wp2_with fail
    go_loopw [5] (fun s wr => s = .int .i64 0 ∧ wr = Z) (fun s _ => 0)
    case atStart => exact ⟨rfl, rfl⟩
    case round =>
      obtain ⟨rfl, rfl⟩ := hrel
      go_upto_region 6 with (fail)
      go_quiet (fail)
      go_upto_region 8 with (fail)
      have HB2 : Hid (Blk (wr.drewN nq) A _ _ ∧ Blk (wr.drewN nq) w.heap.size _ _ ∧ Tch [A] w (wr.drewN nq)) := Lib.hid ⟨HB.out.1, HB.out.2.1, ⟨HB.out.2.2.os, HB.out.2.2.tape, HB.out.2.2.output, HB.out.2.2.size, HB.out.2.2.block⟩⟩
      have d5 : (wr.drewN nq).cell? ⟨A, 1, none⟩ = some (.slice none 0 0) := c5
      have hA1 : A < (wr.drewN nq).heap.size := hAZ
      have hS1 : w.heap.size < (wr.drewN nq).heap.size := hSl
      clear HB c5 hAZ hSl
      generalize wr.drewN nq = w1 at *
      have r0 : Row (w1.alloc (.cells #[] 56)) (.slice (some ⟨w1.heap.size, 0, none⟩) 0 0) [] := .lies _ 0 (fun _ => 0) [] (Blk.made w1 #[] 56 rfl) (Nat.le_refl _) (by unfold maxLen; omega) (fun q hq => by simp at hq)
      have hr1 := app_nothing (w1.alloc (.cells #[] 56)) 61 (some ⟨w1.heap.size, 0, none⟩) 0 0 0 none (Nat.le_refl _)
      go_upto_region 9 with (at_builtin; refine list_appR _ rfl _ _ 61 61 rfl _ _ rfl rfl hr1 ?_)
      have kW1 : Below w1.heap.size w1 (w1.alloc (.cells #[] 56)) := (Below.refl _ _).alloc (Nat.le_refl _) _
      have hW1 : w1.heap.size < (w1.alloc (.cells #[] 56)).heap.size := by simp
      generalize hWW : w1.alloc (.cells #[] 56) = W1 at *
      clear hr1 hWW d5
      obtain ⟨T, N, hO⟩ := opS
      have hS2 := HB2.out.2.1.below kW1 (by omega)
      have l3 : Sem.run Try.prog (loadCellsFrom ⟨w.heap.size, 0, none⟩ 0 N #[]) W1 = .ok #[.int .i64 (fn x 0), .int .i64 (fn x 1), .int .i64 (fn x 2), .int .i64 (fn x 3), .int .i64 (fn x 4), .int .i64 (fn x 5), .int .i64 (fn x 6), .int .i64 (fn x 7), .int .i64 (fn x 8)] W1 := hO.load _ _ _ _ hS2.ints
      obtain ⟨a3, c3, W2, hr2, row2, t2, o2⟩ := app_is (W1.alloc (.cells #[.int .i64 (fn x 0), .int .i64 (fn x 1), .int .i64 (fn x 2), .int .i64 (fn x 3), .int .i64 (fn x 4), .int .i64 (fn x 5), .int .i64 (fn x 6), .int .i64 (fn x 7), .int .i64 (fn x 8)] 56)) 61 _ [] [x] 0 1 rfl rfl (some ⟨W1.heap.size, 0, none⟩) 1 (r0.keep ((Tch.refl [] _).alloc _) (by simp)) (.inr ⟨W1.heap.size, 0, rfl, (blk_lit W1 (fn x)).ints.congr (fun j hj => by have := fl_at [x] 0 j hj; simpa using this.symm)⟩) (by omega)
      simp only [Nat.zero_add, List.nil_append] at hr2 row2 o2
      have kW2 : Below w1.heap.size w1 W2 := kW1.trans ((((Tch.refl [w1.heap.size] W1).alloc _).trans t2).below kW1.size (by simp))
      have ho2 : ∀ q, q ∈ own (.slice a3 1 c3) → w1.heap.size ≤ q := fun q hq => by
        rcases o2 q hq with h1 | h1
        · simp [own] at h1; omega
        · have := kW1.size; simp at h1; omega
      have sa := hO.agg
      have ss := hO.size
      rw [show Op.load 56 = Op.load T by rw [hO.is]]
      clear hO
      go_upto_region 10 with (at_builtin; refine list_appR _ rfl _ _ 61 61 rfl _ _ rfl rfl hr2 ?_)
      have hB3 := HB2.out.1.below kW2 (by omega)
      have hT3 := HB2.out.2.2.call kW2
      have e5 := hB3.cell 1
      have f5 := hB3.free 1
      simp [rbufC] at e5
      have hc3 : 1 ≤ c3 := by
        obtain ⟨a9, c9, h9, h10⟩ := row2.shape
        injection h9 with _ _ e9
        subst e9; simpa using h10
      have hr3 := app_nothing W2 61 a3 1 c3 0 none hc3
      clear l3 hr2 t2 o2 sa ss kW1 hW1 hS2 r0
      go_upto_region 11 with (at_builtin; refine list_appR _ rfl _ _ 61 61 rfl _ _ rfl rfl hr3 ?_)
      clear hr3
      go_upto_region 12 with (fail)
      have hAo : A ∉ own (.slice a3 1 c3) := fun hm => by have := ho2 A hm; omega
      have k4 : Tch [A] W2 (W2.setCell ⟨A, 1, none⟩ (.slice a3 1 c3)) := (Tch.refl _ _).set (.inl (by simp)) _ _
      have B4 := blk_setC (i := 1) (u := .slice a3 1 c3) hB3 rfl
      have R4 := row2.keep k4 (fun q hq hm => by simp at hm; subst hm; exact hAo hq)
      have T4 := hT3.trans k4
      generalize W2.setCell ⟨A, 1, none⟩ (.slice a3 1 c3) = V at *
      clear e5 f5 hB3 hT3 row2 kW2 k4 HB2
      have j1 := B4.cell 1
      have j0 := B4.cell 0
      simp [rbufC] at j1 j0
      have hfI : ¬ (b.size : Int) < 1 := by omega
      have HF := Lib.hid (And.intro B4 (And.intro R4 (And.intro T4 (And.intro hAo ho2))))
      have HL := Lib.hid hl
      clear B4 R4 T4 hAo ho2 hl
      go_quiet (fail)
      go_wp2
      go_ret
      have hi : ins x b.l = [x] := by rw [HL.out]; rfl
      have hp : b.putR x = true := by unfold Ring.putR; rw [if_neg (by have := HLE.out; omega), if_pos (by rw [hi]; exact hz1)]
      have hq : b.put x = { b with cIn := b.cIn + 1, l := [x] } := by unfold Ring.put; rw [if_neg (by have := HLE.out; omega), if_pos (by rw [hi]; exact hz1), hi]
      have kn : Tch [] V (V.drewN nq) := ⟨rfl, rfl, rfl, Nat.le_refl _, fun _ _ _ => rfl⟩
      refine ⟨by rw [hp]; rfl, _, ?_, HF.out.2.2.1.then kn (by simp), fun q hq => .inr (by have := HF.out.2.2.2.2 q hq; omega)⟩
      rw [hq]
      refine ⟨blk_is (kn.blk HF.out.1 (by simp)) (by simp [rbufC]), (HF.out.2.1.keep kn (by simp)).read, HF.out.2.2.2.1, by simp [Sorted], fun y hy => ?_, by simp, ?_⟩
      · simp at hy; rw [hy]; exact hx
      · have := HS.out; rw [HL.out] at this; simp at this ⊢; omega
theorem rput_any (A : Nat) (v : Value) (b : Ring) (x : Sam) (w : World) (h : RBuf w A v b) (hs : b.cIn < 1000000) (hx : x.length = 9) (hz1 : 1 ≤ b.size) (hz2 : b.size ≤ 200) (hz3 : b.l.length ≤ b.size) :
    Calls Try.prog 21 #[.pointer (some ⟨A, 0, none⟩), .agg (rowA 9 (fn x))] w (RPut A v b x w) := by
  rcases rsome h.row with ⟨rfl, h2⟩ | ⟨g, o, c, rfl, hg, hc, hi⟩
  · exact rput_none A b x w h h2 hs hx hz1 hz2 hz3
  · exact rput_some A g o c b x w h hi hc hs hx hz1 hz2 hz3
end Go.Proofs.Ytdndomknjefgkaa.Rg
