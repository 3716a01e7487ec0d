/- A sample is put into a buffer. -/
import Derived.Test.YtdndomknjefgkaaRgJ
import Derived.Test.YtdndomknjefgkaaRgL
namespace Go.Proofs.Ytdndomknjefgkaa.Rg
open Go.RowKit
set_option maxRecDepth 100000 in
set_option maxHeartbeats 4000000 in
theorem seek_nil (x : Sam) (w : World) :
    Calls Try.prog 32 #[.slice none 0 0, .agg (rowA 9 (fn x)), .func (.func 33) #[] #[]] w fun e w' => (∃ b, e = .returned (.tuple #[.int .i64 0, .bool b])) ∧ Below w.heap.size w w' := by
  go_enter Try.func32, Try.ntmps32
  go_wp2
  go_loopw [9, 10] (fun s t wr => s = .int .i64 0 ∧ t = .int .i64 0 ∧ Below w.heap.size w wr) (fun s t _ => 0)
  case atStart => exact ⟨rfl, rfl, (Below.refl _ _).alloc (Nat.le_refl _) _⟩
  case round =>
    obtain ⟨rfl, rfl, hb⟩ := hrel
    have HB := Lib.hid hb
    clear hb
    go_wp2_with fail
    go_quiet (fail)
    go_wp2
    go_ret2
    exact ⟨⟨false, rfl⟩, below_drewN HB.out _⟩
theorem seek_row (x : Sam) (hx : x.length = 9) (v : Value) (l : List Sam) (hl : ∀ y ∈ l, y.length = 9) (hs : Sorted l) (hn : l.length < 1000000) (w : World) (h : Row w v l) :
    Calls Try.prog 32 #[v, .agg (rowA 9 (fn x)), .func (.func 33) #[] #[]] w fun e w' => (∃ b, e = .returned (.tuple #[.int .i64 (cnt x l : Nat), .bool b])) ∧ Below w.heap.size w w' := by
  rcases h.inv with ⟨h1, h2⟩ | ⟨g, cap, F, h1, hB2, hc2, hcm, hF⟩
  · subst h1 h2; exact seek_nil x w
  · have h2 := h1 ▸ h
    obtain ⟨_, _, hg, hi⟩ := h2.ints
    rw [h1]
    exact seek_any x hx g cap l hl hs hn w hg hi
theorem blk_lit (w : World) (f : Nat → Int) : Blk (w.alloc (.cells #[.int .i64 (f 0), .int .i64 (f 1), .int .i64 (f 2), .int .i64 (f 3), .int .i64 (f 4), .int .i64 (f 5), .int .i64 (f 6), .int .i64 (f 7), .int .i64 (f 8)] 56)) w.heap.size (rowA 9 f) 56 := Blk.made w (rowA 9 f) 56 rfl
/-- What Put leaves. -/
def Put3 (A : Nat) (v : Value) (b : Ring) (x : Sam) (w : World) (e : Ending) (w' : World) : Prop :=
  e = .returned (.bool (b.putR x)) ∧ ∃ v', Buf w' A v' (b.put x) ∧ Tch (A :: own v) w w' ∧ ∀ q, q ∈ own v' → q ∈ own v ∨ w.heap.size ≤ q
set_option maxRecDepth 100000 in
set_option maxHeartbeats 4000000 in
theorem put_any (A : Nat) (v : Value) (b : Ring) (x : Sam) (w : World) (h : Buf w A v b) (hs : b.cIn < 1000000) (hx : x.length = 9) (hz1 : 1 ≤ b.size) (hz2 : b.size ≤ 200) (hz3 : b.l.length ≤ b.size) :
    Calls Try.prog 20 #[.pointer (some ⟨A, 0, none⟩), .agg (rowA 9 (fn x))] w (Put3 A v b x w) := by
  obtain ⟨a, c, hv, hc⟩ := h.row.shape
  have hAw := h.blk.lt
  have hsum := h.sum
  have e1 : (b.cIn : Int) < 1000000 := by omega
  have e2 : (b.late : Int) < 1000000 := by omega
  have e3 : (b.full : Int) < 1000000 := by omega
  have H := Lib.hid h
  have HS := Lib.hid hsum
  clear hsum
  go_enter Try.func20, Try.ntmps20
  go_upto_region 1 with (fail)
  generalize hW : World.alloc w _ = X
  have hT : Tch [A] w X := by subst hW; exact (Tch.refl _ _).alloc _
  have hB : Blk X A (bufC b v) 70 := by subst hW; exact h.blk.alloc _
  have hS : Blk X w.heap.size (rowA 9 (fn x)) 56 := by subst hW; exact Blk.made _ _ _ rfl
  have hsz : X.heap.size = w.heap.size + 1 := by subst hW; simp
  clear hW h
  have c0 := hB.cell 0
  have f0 := hB.free 0
  simp only [bufC] at c0
  go_upto_region 2 with (fail)
  clear c0 f0
  replace hB := blk_setC (i := 0) (u := .int .i64 ((b.cIn : Int) + 1)) hB rfl
  replace hS := hS.other (b := A) (i := 0) (by omega) (.int .i64 ((b.cIn : Int) + 1))
  replace hT := hT.set (b := A) (.inl (List.mem_cons_self ..)) 0 (.int .i64 ((b.cIn : Int) + 1))
  have hsz1 : (X.setCell ⟨A, 0, none⟩ (.int .i64 ((b.cIn : Int) + 1))).heap.size = w.heap.size + 1 := by rw [size_set]; exact hsz
  generalize hY : World.setCell X _ _ = Y at *
  clear hY hsz
  have c7 := hB.cell 7
  simp [bufC] at c7
  have s0 := hS.cell 0
  rw [rowA_get _ (by omega)] at s0
  by_cases hle : fn x 0 ≤ b.hor
  · go_quiet (fail)
    have c1 := hB.cell 1
    have f1 := hB.free 1
    simp [bufC] at c1
    go_wp2
    go_ret
    have hp : b.putR x = false := by unfold Ring.putR; rw [if_pos hle]
    have hq : b.put x = { b with cIn := b.cIn + 1, late := b.late + 1 } := by unfold Ring.put; rw [if_pos hle]
    have T3 := (show Tch [A] w (Y.drewN nq) from ⟨hT.os, hT.tape, hT.output, hT.size, hT.block⟩).set (b := A) (.inl (List.mem_cons_self ..)) 1 (.int .i64 ((b.late : Int) + 1))
    refine ⟨by rw [hp]; rfl, v, ?_, T3.mono (fun q hq => .inl (by simp at hq; subst hq; exact List.mem_cons_self ..)), fun q hq => .inl hq⟩
    rw [hq]
    refine ⟨blk_is (blk_setC (i := 1) (u := .int .i64 ((b.late : Int) + 1)) (show Blk (Y.drewN nq) A _ _ from hB) rfl) (by simp [bufC]), H.out.row.keep T3 (fun q hq => by have := H.out.ne; simp; rintro rfl; exact this hq), H.out.ne, H.out.srt, H.out.nine, H.out.len, ?_⟩
    have := HS.out
    simp; omega
  · go_quiet (fail)
    go_upto_region 5 with (fail)
    have hBZ : Blk (Y.drewN nq) A _ _ := hB
    have hSZ : Blk (Y.drewN nq) w.heap.size _ _ := hS
    have hTZ : Tch [A] w (Y.drewN nq) := ⟨hT.os, hT.tape, hT.output, hT.size, hT.block⟩
    have hsz2 : (Y.drewN nq).heap.size = w.heap.size + 1 := hsz1
    clear hB hS hT hsz1 c7 s0
    generalize Y.drewN nq = Z at *
    have hR : Row Z v b.l := H.out.row.keep hTZ (fun q hq => by have := H.out.ne; simp; rintro rfl; exact this hq)
    have SK : Hid (∀ W, Below Z.heap.size Z W → Calls Try.prog 32 #[v, .agg (rowA 9 (fn x)), .func (.func 33) #[] #[]] W fun e w' => (∃ q, e = .returned (.tuple #[.int .i64 (cnt x b.l : Nat), .bool q])) ∧ Below W.heap.size W w') := Lib.hid fun W k => seek_row x hx v b.l H.out.nine H.out.srt (by omega) W (hR.keep (.of [] k) (by simp))
    have hcl := cnt_le x b.l
    have HC := Lib.hid hcl
    clear hcl
    have c5 := hBZ.cell 5
    simp [bufC] at c5
    subst hv
    generalize hcn : cnt x b.l = k at *
    have HCN := Lib.hid hcn
    clear hcn
    have hAZ : A < Z.heap.size := by omega
    have hSl : w.heap.size < Z.heap.size := by omega
    obtain ⟨T, N, hO⟩ := opS
    have l2 := hO.load _ _ _ _ hSZ.ints.drew
    have Yy := Lib.hid (And.intro hSZ.ints.drew (And.intro hSl (And.intro hAZ c5)))
    have sa := hO.agg
    have ss := hO.size
    have sl := hO.len
    have HT := Lib.hid hO
    rw [show Op.load 56 = Op.load T by rw [hO.is]]
    clear hO
    go_region_held3 (fun w' => w'.cell? ⟨A, 5, none⟩ = some (.slice a b.l.length c) ∧ Sem.run Try.prog (loadCellsFrom ⟨w.heap.size, 0, none⟩ 0 N #[]) w' = .ok (rowA 9 (fn x)) w')
      ((first | exact ⟨c5, l2⟩ | exact ⟨(by simpa using c5), l2⟩ | exact ⟨j1, j2⟩))
      (first
        | (go_at_call 32; refine (SK.out _ (Below.refl _ _).drew).mono ?_; rintro e w1 ⟨⟨bb, rfl⟩, k1⟩; have j1 := (cellAt k1 Yy.out.2.2.1 (i := 5)).trans Yy.out.2.2.2; have j2 := HT.out.load _ _ _ _ (Yy.out.1.below k1 Yy.out.2.1)))
    have k1 : Below Z.heap.size Z w1 := Below.undrew k1
    have B1 := hBZ.below k1 hAZ
    have S1 := hSZ.below k1 hSl
    have T1 := hTZ.call k1
    have R1 := hR.keep (.of [] k1) (by simp)
    have z1 : w.heap.size < w1.heap.size := by have := k1.size; omega
    clear hBZ hSZ hTZ hR hSl hAZ hsz2 SK j1 j2 l2 sa ss sl c5 Yy k1
    go_upto_region 6 with (fail)
    have hAl : A < w1.heap.size := by omega
    have IN : Hid (∀ W, Below w1.heap.size w1 W → Blk W w1.heap.size (rowA 9 (fn x)) 56 → Calls Try.prog 34 #[.slice a b.l.length c, .int .i64 (k : Nat), .slice (some ⟨w1.heap.size, 0, none⟩) 1 1] W (fun e w' => ∃ a2 n2 c2, e = .returned (.slice a2 n2 c2) ∧ w'.cell? ⟨A, 5, none⟩ = some (.slice a b.l.length c) ∧ w'.frozen? ⟨A, 5, none⟩ = false ∧
        Hid (Row w' (.slice a2 n2 c2) (ins x b.l) ∧ Blk w' A ((bufC b (.slice a b.l.length c)).setIfInBounds 0 (.int .i64 ((b.cIn : Int) + 1))) 70 ∧ Tch (A :: own (.slice a b.l.length c)) w w' ∧ (∀ q, q ∈ own (.slice a2 n2 c2) → q ∈ own (.slice a b.l.length c) ∨ w.heap.size < q) ∧ Blk w' w.heap.size (rowA 9 (fn x)) 56))) := Lib.hid fun W kW hhB => by
      rw [ins_at x b.l H.out.srt, HCN.out]
      refine (insert_any x _ w1.heap.size k b.l W (R1.keep (.of [] kW) (by simp)) hhB (fun hm => by have := R1.lt _ hm; omega) (by have := H.out.len; omega) HC.out).mono ?_
      rintro e w' ⟨v', rfl, r1, r2, r3⟩
      obtain ⟨a2, c2, rfl, _⟩ := r1.shape
      have hB2 := r2.blk (B1.below kW hAl) H.out.ne
      have hc2 := hB2.cell 5
      simp [bufC] at hc2
      refine ⟨a2, _, c2, rfl, hc2, hB2.free 5, r1, hB2, ?_, fun q hq => ?_, r2.blk (S1.below kW z1) (fun hm => by have := H.out.row.lt _ hm; omega)⟩
      · exact ((T1.call kW).mono (fun q hq => .inl (by simp at hq; subst hq; exact List.mem_cons_self ..))).then r2 (fun q hq => .inl (List.mem_cons_of_mem _ hq))
      · rcases r3 q hq with h1 | h1
        · exact .inl h1
        · exact .inr (by have := kW.size; omega)
    have c5 := B1.cell 5
    simp [bufC] at c5
    have f5 := B1.free 5
    have l2 : Sem.run Try.prog (loadCellsFrom ⟨w.heap.size, 0, none⟩ 0 N #[]) w1.drew = .ok #[.int .i64 (fn x 0), .int .i64 (fn x 1), .int .i64 (fn x 2), .int .i64 (fn x 3), .int .i64 (fn x 4), .int .i64 (fn x 5), .int .i64 (fn x 6), .int .i64 (fn x 7), .int .i64 (fn x 8)] w1.drew := HT.out.load _ _ _ _ S1.ints.drew
    have l3 : Sem.run Try.prog (loadCellsFrom ⟨w.heap.size, 0, none⟩ 0 N #[]) w1 = .ok #[.int .i64 (fn x 0), .int .i64 (fn x 1), .int .i64 (fn x 2), .int .i64 (fn x 3), .int .i64 (fn x 4), .int .i64 (fn x 5), .int .i64 (fn x 6), .int .i64 (fn x 7), .int .i64 (fn x 8)] w1 := HT.out.load _ _ _ _ S1.ints
    have Y1 := Lib.hid (And.intro S1 (And.intro z1 (And.intro hAl (And.intro c5 (And.intro f5 B1)))))
    have sa := HT.out.agg
    have ss := HT.out.size
    have sl := HT.out.len
    rw [show Op.load 56 = Op.load T by rw [HT.out.is]]
    clear B1 S1 f5
    go_region_with (first
      | (go_at_call 34; refine (IN.out _ (by first | exact ((Below.refl _ _).alloc (Nat.le_refl _) _).drew | exact (Below.refl _ _).drew.alloc (Nat.le_refl _) _) (by first | exact blk_lit _ _ | exact (blk_lit _ _).drew)).mono ?_; rintro e w2 ⟨a2, n2, c2, rfl, j5, g5, HI⟩))
    all_goals
      clear l2 l3 c5 sa ss sl j5 g5
      go_upto_region 7 with (fail)
      have hlen := ins_len x b.l
      have hsh := HI.out.1.shape
      obtain ⟨a3, c3, hv3, hc3⟩ := hsh
      injection hv3 with q1 q2 q3
      subst q1 q3
      obtain rfl : n2 = b.l.length + 1 := by rw [q2, hlen]
      have hA2 : A < w2.heap.size := HI.out.2.1.lt
      have hAo : A ∉ own (.slice a2 (b.l.length + 1) c2) := fun hm => by
        rcases HI.out.2.2.2.1 A hm with h1 | h1
        · exact H.out.ne h1
        · omega
      have B3 := blk_setC (i := 5) (u := .slice a2 (b.l.length + 1) c2) HI.out.2.1 rfl
      have k3 : Tch [A] w2 (w2.setCell ⟨A, 5, none⟩ (.slice a2 (b.l.length + 1) c2)) := (Tch.refl _ _).set (.inl (by simp)) _ _
      have R3 := HI.out.1.keep k3 (fun q hq hm => by simp at hm; subst hm; exact hAo hq)
      have T3 := HI.out.2.2.1.then k3 (fun q hq => .inl (by simp at hq; subst hq; exact List.mem_cons_self ..))
      have S3 := k3.blk HI.out.2.2.2.2 (by simp; omega)
      have HO := Lib.hid HI.out.2.2.2.1
      generalize w2.setCell ⟨A, 5, none⟩ (.slice a2 (b.l.length + 1) c2) = V at *
      clear k3 HI hA2 IN Y1 T1 R1 z1 hc3 q2
      have j5 := B3.cell 5
      have j6 := B3.cell 6
      simp [bufC] at j5 j6
      have hAV : A < V.heap.size := B3.lt
      have HLN := Lib.hid hlen
      clear hlen
      have HB3 := Lib.hid (And.intro B3 (And.intro R3 (And.intro T3 (And.intro S3 (And.intro hAo hAV)))))
      clear B3 R3 T3 S3 hAo
      by_cases hfit : b.l.length + 1 ≤ b.size
      · have hfI : (b.l.length : Int) + 1 ≤ (b.size : Int) := by omega
        go_quiet (fail)
        go_wp2
        go_ret
        have hp : b.putR x = true := by unfold Ring.putR; rw [if_neg (by omega), if_pos (by rw [HLN.out]; exact hfit)]
        have hq : b.put x = { b with cIn := b.cIn + 1, l := ins x b.l } := by unfold Ring.put; rw [if_neg (by omega), if_pos (by rw [HLN.out]; exact hfit)]
        refine ⟨by rw [hp]; rfl, _, ?_, ⟨HB3.out.2.2.1.os, HB3.out.2.2.1.tape, HB3.out.2.2.1.output, HB3.out.2.2.1.size, HB3.out.2.2.1.block⟩, fun q hq => (HO.out q hq).imp id (fun h => by omega)⟩
        rw [hq]
        refine ⟨blk_is HB3.out.1 (by simp [bufC]), HB3.out.2.1.keep (S := []) ⟨rfl, rfl, rfl, Nat.le_refl _, fun _ _ _ => rfl⟩ (by simp), HB3.out.2.2.2.2.1, ins_sorted x _ H.out.srt, fun y hy => ?_, by rw [HLN.out]; have := H.out.len; omega, ?_⟩
        · rcases (ins_mem x b.l).1 hy with rfl | h1
          · exact hx
          · exact H.out.nine y h1
        · have := HS.out
          show b.cIn + 1 = b.late + b.full + b.bad + b.out + (ins x b.l).length
          rw [HLN.out]; omega
      · have hfI : ¬ (b.l.length : Int) + 1 ≤ (b.size : Int) := by omega
        go_quiet (fail)
        have j2 := HB3.out.1.cell 2
        have g2 := HB3.out.1.free 2
        simp [bufC] at j2
        go_upto_region 10 with (fail)
        have k4 : Tch [A] V ((V.drewN nq).setCell ⟨A, 2, none⟩ (.int .i64 ((b.full : Int) + 1))) := (show Tch [A] V (V.drewN nq) from ⟨rfl, rfl, rfl, Nat.le_refl _, fun _ _ _ => rfl⟩).set (.inl (by simp)) _ _
        have B4 := blk_setC (w := V.drewN nq) (i := 2) (u := .int .i64 ((b.full : Int) + 1)) HB3.out.1 rfl
        have R4 := HB3.out.2.1.keep k4 (fun q hq hm => by simp at hm; subst hm; exact HB3.out.2.2.2.2.1 hq)
        have T4 := HB3.out.2.2.1.then k4 (fun q hq => .inl (by simp at hq; subst hq; exact List.mem_cons_self ..))
        have S4 := k4.blk HB3.out.2.2.2.1 (by simp; omega)
        generalize (V.drewN nq).setCell ⟨A, 2, none⟩ (.int .i64 ((b.full : Int) + 1)) = U at *
        have hhd : ∃ y r, ins x b.l = y :: r ∧ y.length = 9 := by
          rcases hi : ins x b.l with _ | ⟨y, r⟩
          · have := HLN.out; rw [hi] at this; simp at this
          · refine ⟨y, r, rfl, ?_⟩
            rcases (ins_mem x b.l).1 (by rw [hi]; exact List.mem_cons_self ..) with h1 | h1
            · rw [h1]; exact hx
            · exact H.out.nine y h1
        obtain ⟨y, r, hyr, hy9⟩ := hhd
        have hAU : A < U.heap.size := B4.lt
        have hSU := S4.lt
        have TK : Hid (∀ W, Below U.heap.size U W → Calls Try.prog 35 #[.pointer (some ⟨A, 0, none⟩), .int .i64 1] W (fun e w' => ∃ gt ct, e = .returned (.slice (some ⟨gt, 0, none⟩) 1 ct) ∧ Hid (Blk w' w.heap.size (rowA 9 (fn x)) 56 ∧ Ints w' gt 0 9 (fn y) ∧ ∃ v', Buf w' A v' (b.put x) ∧ Tch (A :: own (.slice a b.l.length c)) w w' ∧ ∀ q, q ∈ own v' → q ∈ own (.slice a b.l.length c) ∨ w.heap.size ≤ q))) := Lib.hid fun W kW => by
          have hq : b.put x = { b with cIn := b.cIn + 1, full := b.full + 1, l := r } := by
            unfold Ring.put; rw [if_neg (by omega), if_neg (by rw [HLN.out]; omega), hyr]; rfl
          refine (take_any A 1 (.slice a2 (b.l.length + 1) c2) { b with cIn := b.cIn + 1, full := b.full + 1, l := ins x b.l } W (blk_is (B4.below kW hAU) (by simp [bufC])) (R4.keep (.of [] kW) (by simp)) HB3.out.2.2.2.2.1 (by show (ins x b.l).length < 1000; rw [HLN.out]; have := H.out.len; omega) (by show 1 ≤ (ins x b.l).length; rw [HLN.out]; omega)).mono ?_
          rintro e w' ⟨t, v', rfl, r1, r2, r3, r4, r5, r6⟩
          rw [show ({ b with cIn := b.cIn + 1, full := b.full + 1, l := ins x b.l } : Ring).l = y :: r from hyr] at r1 r4
          have r1 : Row w' t [y] := r1
          have r4 : Row w' v' r := r4
          obtain ⟨gt, ct, rfl, hc⟩ := row_cell r1 (i := 0) (by simp)
          refine ⟨gt, ct, rfl, r6.blk (S4.below kW hSU) (fun hm => ?_), ⟨fun j hj => by have := hc j hj; simpa using this⟩, v', ⟨?_, ?_, ?_, ?_, ?_, ?_, ?_⟩, ?_, fun q hq => ?_⟩
          · rcases List.mem_cons.1 hm with h1 | h1
            · omega
            · rcases HO.out _ h1 with h2 | h2
              · have := H.out.row.lt _ h2; omega
              · omega
          · rw [hq]; exact blk_is r3 (by simp [bufC])
          · rw [hq]; exact r4
          · rw [r5]; exact HB3.out.2.2.2.2.1
          · rw [hq]; have := ins_sorted x b.l H.out.srt; rw [hyr] at this; exact (List.pairwise_cons.1 this).2
          · rw [hq]; intro z hz
            rcases (ins_mem x b.l).1 (by rw [hyr]; exact List.mem_cons_of_mem _ hz) with rfl | h1
            · exact hx
            · exact H.out.nine z h1
          · rw [hq]; have h1 := HLN.out; rw [hyr] at h1; simp at h1; have := H.out.len; show r.length < 900; omega
          · rw [hq]; have h1 := HLN.out; rw [hyr] at h1; simp at h1; have := HS.out; show b.cIn + 1 = b.late + (b.full + 1) + b.bad + b.out + r.length; omega
          · refine ((T4.call kW).then r6 (fun q hq => ?_))
            rcases List.mem_cons.1 hq with rfl | h1
            · exact .inl (List.mem_cons_self ..)
            · rcases HO.out q h1 with h2 | h2
              · exact .inl (List.mem_cons_of_mem _ h2)
              · exact .inr (by omega)
          · rw [r5] at hq
            exact (HO.out q hq).imp id (fun h => by omega)
        have hR : b.putR x = !(y == x) := by
          unfold Ring.putR; rw [if_neg (by omega), if_neg (by rw [HLN.out]; omega), hyr]; rfl
        have HR := Lib.hid hR
        have HY9 := Lib.hid hy9
        have l2 := HT.out.load _ _ _ _ S4.ints.drew
        have sa := HT.out.agg
        have ss := HT.out.size
        have sl := HT.out.len
        have sn := HT.out.neq
        have sg := HT.out.guard
        have se := HT.out.eqv
        rw [show Op.load 56 = Op.load T by rw [HT.out.is], show Op.binOp BinOp.neq 56 = Op.binOp BinOp.neq T by rw [HT.out.is]]
        clear j2 g2 k4 B4 R4 T4 S4 hyr hy9 hR hfI j5 j6 hAU hSU hAV
        go_region_with (first
          | (go_at_call 35; refine (TK.out _ (Below.refl _ _).drew).mono ?_; rintro e w5 ⟨gt, ct, rfl, HE⟩; have m2 := HT.out.load _ _ _ _ HE.out.1.ints; have m1 := HT.out.load _ _ _ _ HE.out.2.1))
        all_goals
          go_wp2_with fail
          go_ret
          refine ⟨?_, HE.out.2.2⟩
          rw [HR.out, ← eqB_sam HY9.out hx]
          rfl
end Go.Proofs.Ytdndomknjefgkaa.Rg
