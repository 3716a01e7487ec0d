/- The document's own: a sample is put in. -/
import Derived.Test.YtdndomknjefgkaaRgP
namespace Go.Proofs.Ytdndomknjefgkaa.Rg
open Go.RowKit
def pos (x : Sam) : List Sam → Nat
  | [] => 0
  | y :: r => bif lt x y then 0 else pos x r + 1
theorem pos_le (x : Sam) : ∀ l, pos x l ≤ l.length
  | [] => Nat.le_refl _
  | y :: r => by unfold pos; cases lt x y <;> simp [pos_le x r]
theorem pos_at (x : Sam) : ∀ l, insU x l = l.take (pos x l) ++ x :: l.drop (pos x l)
  | [] => rfl
  | y :: r => by
    unfold pos insU
    cases lt x y
    · simp [pos_at x r]
    · rfl
theorem pos_lt (x : Sam) : ∀ (l : List Sam) (k : Nat), k < pos x l → lt x (l.getD k []) = false
  | [], k, h => by simp [pos] at h
  | y :: r, k, h => by
    unfold pos at h
    cases hy : lt x y
    · rw [hy] at h
      cases k with
      | zero => exact hy
      | succ k => exact pos_lt x r k (by simp at h; omega)
    · rw [hy] at h; simp at h
theorem pos_end (x : Sam) : ∀ (l : List Sam), pos x l < l.length → lt x (l.getD (pos x l) []) = true
  | [], h => by simp at h
  | y :: r, h => by
    unfold pos at h ⊢
    cases hy : lt x y
    · rw [hy] at h
      simp only [cond_false, List.length_cons] at h ⊢
      exact pos_end x r (by omega)
    · exact hy
theorem rsome {w : World} {v : Value} {l : List Sam} (h : RRow w v l) : (v = .slice none 0 0 ∧ l = []) ∨ ∃ g o c, v = .slice (some ⟨g, o, none⟩) l.length c ∧ g < w.heap.size ∧ l.length ≤ c ∧ Ints w g o (9 * l.length) (fl l) := by
  rcases h.inv with ⟨a, c, rfl, rfl, ha, h0⟩ | h
  · rcases a with _ | ⟨g, o, s⟩
    · obtain rfl := h0 rfl
      exact .inl ⟨rfl, rfl⟩
    · obtain ⟨h1, h2⟩ := ha _ rfl
      have h2 : s = none := h2
      subst h2
      exact .inr ⟨g, o, c, rfl, h1, Nat.zero_le _, ⟨fun i hi => by simp at hi⟩⟩
  · exact .inr h
theorem rrow_is {w : World} {g o c n : Nat} {l : List Sam} (hl : l.length = n) (hg : g < w.heap.size) (hc : n ≤ c) (hi : Ints w g o (9 * n) (fl l)) : RRow w (.slice (some ⟨g, o, none⟩) n c) l := by
  subst hl
  exact .lies g o c l hg hc hi
def RPut (A : Nat) (v : Value) (b : Ring) (x : Sam) (w : World) (e : Ending) (w' : World) : Prop :=
  e = .returned (.bool (b.putR x)) ∧ ∃ v', RBuf w' A v' (b.put x) ∧ Tch [A] w w' ∧ ∀ q, q ∈ own v' → q ∈ own v ∨ w.heap.size ≤ q
set_option maxRecDepth 100000 in
set_option maxHeartbeats 32000000 in
theorem rput_some (A g o c : Nat) (b : Ring) (x : Sam) (w : World) (h : RBuf w A (.slice (some ⟨g, o, none⟩) b.l.length c) b) (hi : Ints w g o (9 * b.l.length) (fl b.l)) (hc : b.l.length ≤ c) (hs : b.cIn < 1000000) (hx : x.length = 9) (hz1 : 1 ≤ b.size) (hz2 : b.size ≤ 200) (hz3 : b.l.length ≤ b.size) :
    Calls Try.prog 21 #[.pointer (some ⟨A, 0, none⟩), .agg (rowA 9 (fn x))] w (RPut A (.slice (some ⟨g, o, none⟩) b.l.length c) b x w) := by
  have hAw := h.blk.lt
  have hgw : g < w.heap.size := h.row.lt g (by simp [own])
  have hgA : g ≠ A := fun e => h.ne (by simp [own, e])
  have hsum := h.sum
  have H := Lib.hid h
  have HS := Lib.hid hsum
  have w1 : IntKind.i64.wrap ((b.cIn : Int) + 1) = (b.cIn : Int) + 1 := by rw [IntKind.wrap_i64]; omega
  have w2 : IntKind.i64.wrap ((b.late : Int) + 1) = (b.late : Int) + 1 := by rw [IntKind.wrap_i64]; omega
  have w3 : IntKind.i64.wrap ((b.full : Int) + 1) = (b.full : Int) + 1 := by rw [IntKind.wrap_i64]; omega
  clear hsum
  go_enter Try.func21, Try.ntmps21
  go_upto_region 1 with (fail)
  generalize hW : World.alloc w _ = X
  have hT : Tch [A] w X := by subst hW; exact (Tch.refl _ _).alloc _
  have hB : Blk X A (rbufC b (.slice (some ⟨g, o, none⟩) b.l.length c)) 73 := by subst hW; exact h.blk.alloc _
  have hS : Blk X w.heap.size (rowA 9 (fn x)) 56 := by subst hW; exact Blk.made _ _ _ rfl
  have hsz : X.heap.size = w.heap.size + 1 := by subst hW; simp
  clear hW h
  have c0 := hB.cell 3
  have f0 := hB.free 3
  simp only [rbufC] at c0
  go_region_law (fail)
  clear c0 f0
  replace hB := blk_setC (i := 3) (u := .int .i64 ((b.cIn : Int) + 1)) hB rfl
  replace hS := hS.other (b := A) (i := 3) (by omega) (.int .i64 ((b.cIn : Int) + 1))
  replace hT := hT.set (b := A) (.inl (List.mem_cons_self ..)) 3 (.int .i64 ((b.cIn : Int) + 1))
  have hsz1 : (X.setCell ⟨A, 3, none⟩ (.int .i64 ((b.cIn : Int) + 1))).heap.size = w.heap.size + 1 := by rw [size_set]; exact hsz
  replace hB := hB.drew
  replace hS := hS.drew
  replace hT := hT.drew
  replace hsz1 : (X.setCell ⟨A, 3, none⟩ (.int .i64 ((b.cIn : Int) + 1))).drew.heap.size = w.heap.size + 1 := hsz1
  generalize hY : World.drew _ = Y at *
  clear hY hsz
  have c7 := hB.cell 2
  simp [rbufC] at c7
  have s0 := hS.cell 0
  rw [rowA_get _ (by omega)] at s0
  go_upto_region 2 with (fail)
  by_cases hle : fn x 0 ≤ b.hor
  · go_quiet (fail)
    have c1 := hB.cell 4
    have f1 := hB.free 4
    simp [rbufC] at c1
    go_upto_region 3 with (fail)
    go_region_law (fail)
    go_wp2
    go_ret
    have hp : b.putR x = false := by unfold Ring.putR; rw [if_pos hle]
    have hq : b.put x = { b with cIn := b.cIn + 1, late := b.late + 1 } := by unfold Ring.put; rw [if_pos hle]
    have T3 := (show Tch [A] w (Y.drewN nq) from ⟨hT.os, hT.tape, hT.output, hT.size, hT.block⟩).set (b := A) (.inl (List.mem_cons_self ..)) 4 (.int .i64 ((b.late : Int) + 1))
    refine ⟨by rw [hp]; rfl, _, ?_, T3.drew, fun q hq => .inl hq⟩
    rw [hq]
    refine ⟨blk_is (blk_setC (i := 4) (u := .int .i64 ((b.late : Int) + 1)) (show Blk (Y.drewN nq) A _ _ from hB) rfl).drew (by simp [rbufC]), H.out.row.keep T3.drew (fun q hq => by have := H.out.ne; simp; rintro rfl; exact this hq), H.out.ne, H.out.srt, H.out.nine, H.out.len, ?_⟩
    have := HS.out
    simp; omega
  · have HLE := Lib.hid hle
    go_quiet (fail)
    go_upto_region 5 with (fail)
    have hBZ : Blk (Y.drewN nq) A _ _ := hB
    have hSZ : Blk (Y.drewN nq) w.heap.size _ _ := hS
    have hTZ : Tch [A] w (Y.drewN nq) := ⟨hT.os, hT.tape, hT.output, hT.size, hT.block⟩
    clear hB hS hT hsz1 c7 s0
    generalize Y.drewN nq = Z at *
    have hIZ : Ints Z g o (9 * b.l.length) (fl b.l) := hTZ.ints hi hgw (by simpa using hgA)
    have hAZ : A < Z.heap.size := hBZ.lt
    have hSl : w.heap.size < Z.heap.size := hSZ.lt
    have hgZ : g < Z.heap.size := by omega
    have HB := Lib.hid (And.intro hBZ (And.intro hSZ (And.intro hTZ hIZ)))
    clear hBZ hSZ hTZ hIZ hi
    have HL := Lib.hid (And.intro (pos_le x b.l) (And.intro (pos_at x b.l) (And.intro (pos_lt x b.l) (pos_end x b.l))))
    have hnine := H.out.nine
    have HN := Lib.hid hnine
    clear hnine
    generalize hp : pos x b.l = p at *
    generalize hn : b.l.length = n at *
    have HP := Lib.hid (And.intro hp hn)
    clear hp hn
    have hpn : p ≤ n := HL.out.1
    go_wp2_with fail
    go_loopw [5] (fun s wr => ∃ k : Nat, s = .int .i64 k ∧ k ≤ p ∧ Hid (Below Z.heap.size Z wr)) (fun s _ => p - (intOf s).toNat)
    case atStart => exact ⟨0, rfl, Nat.zero_le _, Lib.hid (Below.refl _ _)⟩
    case round =>
      obtain ⟨k, rfl, hkp, KW⟩ := hrel
      have c5 : wr.cell? ⟨A, 1, none⟩ = some (.slice (some ⟨g, o, none⟩) n c) := by
        rw [cellAt KW.out hAZ, HB.out.1.cell 1]; simp [rbufC]
      by_cases hk2 : k < p
      · have hkn : k < n := by omega
        have hkI : (k : Int) < (n : Int) := by omega
        have hk0 : (0 : Int) ≤ (k : Int) := by omega
        obtain ⟨y, hy⟩ : ∃ y, y = b.l.getD k [] := ⟨_, rfl⟩
        have hy9 : y.length = 9 := by
          rw [hy]
          simp only [List.getD_eq_getElem?_getD, List.getElem?_eq_getElem (show k < b.l.length by rw [HP.out.2]; exact hkn), Option.getD_some]
          exact HN.out _ (List.getElem_mem _)
        have C : Hid (∀ W, Calls Try.prog 36 #[.agg (rowA 9 (fn x)), .agg (rowA 9 (fn y))] W fun e w' => e = .returned (.bool (lt x y)) ∧ Below W.heap.size W w') := fun W => less_any _ _ hx hy9 W
        have y1 : Ints wr g (o + k * 9) 9 (fn y) := by
          rw [hy, show o + k * 9 = o + 9 * k by omega]
          exact Ints.sam (l := b.l) (by rw [HP.out.2]; exact HB.out.2.2.2.below KW.out hgZ) (by rw [HP.out.2]; exact hkn)
        have y2 : Ints wr w.heap.size 0 9 (fn x) := HB.out.2.1.ints.below KW.out hSl
        have hgr : g < wr.heap.size := by have := KW.out.size; omega
        have hSr : w.heap.size < wr.heap.size := by have := KW.out.size; omega
        have hAr : A < wr.heap.size := by omega
        obtain ⟨T, N, hO⟩ := opS
        have l1 := hO.load _ _ _ _ y1.drew
        have l2 := hO.load _ _ _ _ y2.drew
        have d5 : wr.drew.cell? ⟨A, 1, none⟩ = some (.slice (some ⟨g, o, none⟩) n c) := c5
        have Yy := Lib.hid (And.intro y1.drew (And.intro y2.drew (And.intro d5 (And.intro hgr (And.intro hSr hAr)))))
        have sa := hO.agg
        have ss := hO.size
        have sl := hO.len
        have HT := Lib.hid hO
        have HY := Lib.hid hy
        clear y1 y2 hy hy9 w1 w2 w3 hle
        go_upto_region 6 with (fail)
        rw [show Op.load 56 = Op.load T by rw [HT.out.is]]
        clear hO
        have hlt : lt x y = false := by rw [HY.out]; exact HL.out.2.2.1 k hk2
        rw [hlt] at C
        clear hlt
        go_region_held3 (fun w' => w'.cell? ⟨A, 1, none⟩ = some (.slice (some ⟨g, o, none⟩) n c) ∧ Sem.run Try.prog (loadCellsFrom ⟨g, o + k * 9, none⟩ 0 N #[]) w' = .ok (rowA 9 (fn y)) w' ∧ Sem.run Try.prog (loadCellsFrom ⟨w.heap.size, 0, none⟩ 0 N #[]) w' = .ok (rowA 9 (fn x)) w')
          ((first | exact ⟨d5, l1, l2⟩ | exact ⟨(by simpa using c5), l1, l2⟩ | exact ⟨j0, j1, j2⟩))
          (first
            | (go_at_call 36; refine (C.out _).mono ?_; rintro e w1 ⟨rfl, k1⟩; have j0 := (cellAt k1 Yy.out.2.2.2.2.2 (i := 1)).trans Yy.out.2.2.1; have j1 := HT.out.load _ _ _ _ (Yy.out.1.below k1 Yy.out.2.2.2.1); have j2 := HT.out.load _ _ _ _ (Yy.out.2.1.below k1 Yy.out.2.2.2.2.1)))
        have KW2 := Lib.hid (KW.out.trans ((Below.undrew k1).mono KW.out.size))
        clear l1 l2 d5 j0 j1 j2 sa ss sl k1 c5
        go_wp2_with fail
        go_roundw
        case rel => exact ⟨k + 1, by go_num, by omega, KW2⟩
        case measure => simp [intOf]; omega
      · obtain rfl : k = p := by omega
        by_cases hkn : k < n
        case' pos =>
          have hkI : (k : Int) < (n : Int) := by omega
          have hk0 : (0 : Int) ≤ (k : Int) := by omega
          obtain ⟨y, hy⟩ : ∃ y, y = b.l.getD k [] := ⟨_, rfl⟩
          have hy9 : y.length = 9 := by
            rw [hy]
            simp only [List.getD_eq_getElem?_getD, List.getElem?_eq_getElem (show k < b.l.length by rw [HP.out.2]; exact hkn), Option.getD_some]
            exact HN.out _ (List.getElem_mem _)
          have C : Hid (∀ W, Calls Try.prog 36 #[.agg (rowA 9 (fn x)), .agg (rowA 9 (fn y))] W fun e w' => e = .returned (.bool (lt x y)) ∧ Below W.heap.size W w') := fun W => less_any _ _ hx hy9 W
          have y1 : Ints wr g (o + k * 9) 9 (fn y) := by
            rw [hy, show o + k * 9 = o + 9 * k by omega]
            exact Ints.sam (l := b.l) (by rw [HP.out.2]; exact HB.out.2.2.2.below KW.out hgZ) (by rw [HP.out.2]; exact hkn)
          have y2 : Ints wr w.heap.size 0 9 (fn x) := HB.out.2.1.ints.below KW.out hSl
          have hgr : g < wr.heap.size := by have := KW.out.size; omega
          have hSr : w.heap.size < wr.heap.size := by have := KW.out.size; omega
          have hAr : A < wr.heap.size := by omega
          obtain ⟨T, N, hO⟩ := opS
          have l1 := hO.load _ _ _ _ y1.drew
          have l2 := hO.load _ _ _ _ y2.drew
          have d5 : wr.drew.cell? ⟨A, 1, none⟩ = some (.slice (some ⟨g, o, none⟩) n c) := c5
          have Yy := Lib.hid (And.intro y1.drew (And.intro y2.drew (And.intro d5 (And.intro hgr (And.intro hSr hAr)))))
          have sa := hO.agg
          have ss := hO.size
          have sl := hO.len
          have HT := Lib.hid hO
          have HY := Lib.hid hy
          clear y1 y2 hy hy9 w1 w2 w3 hle
          go_upto_region 6 with (fail)
          rw [show Op.load 56 = Op.load T by rw [HT.out.is]]
          clear hO
          have hlt : lt x y = true := by rw [HY.out]; exact HL.out.2.2.2 hkn
          rw [hlt] at C
          clear hlt
          go_region_held3 (fun w' => w'.cell? ⟨A, 1, none⟩ = some (.slice (some ⟨g, o, none⟩) n c) ∧ Sem.run Try.prog (loadCellsFrom ⟨g, o + k * 9, none⟩ 0 N #[]) w' = .ok (rowA 9 (fn y)) w' ∧ Sem.run Try.prog (loadCellsFrom ⟨w.heap.size, 0, none⟩ 0 N #[]) w' = .ok (rowA 9 (fn x)) w')
            ((first | exact ⟨d5, l1, l2⟩ | exact ⟨(by simpa using c5), l1, l2⟩ | exact ⟨j0, j1, j2⟩))
            (first
              | (go_at_call 36; refine (C.out _).mono ?_; rintro e w1 ⟨rfl, k1⟩; have j0 := (cellAt k1 Yy.out.2.2.2.2.2 (i := 1)).trans Yy.out.2.2.1; have j1 := HT.out.load _ _ _ _ (Yy.out.1.below k1 Yy.out.2.2.2.1); have j2 := HT.out.load _ _ _ _ (Yy.out.2.1.below k1 Yy.out.2.2.2.2.1)))
          have KV := Lib.hid (KW.out.trans ((Below.undrew k1).mono KW.out.size))
          clear l1 l2 d5 j0 j1 j2 sa ss sl k1 c5 Yy HY C hgr hSr hAr HT KW
          go_upto_region 8 with (fail)
        case' neg =>
          have hnI : decide ((k : Int) < (n : Int)) = false := by simp; omega
          clear w1 w2 w3 hle
          go_upto_region 6 with (fail)
          go_quiet (fail)
          have KV : Hid (Below Z.heap.size Z (wr.drewN nq)) := Lib.hid (below_drewN KW.out _)
          clear c5 KW
          go_upto_region 8 with (fail)
          generalize wr.drewN nq = w1 at *
        all_goals
          have hBV := HB.out.1.below KV.out hAZ
          have hSV := HB.out.2.1.below KV.out hSl
          have hIV := HB.out.2.2.2.below KV.out hgZ
          have hTV := HB.out.2.2.1.call KV.out
          have hVz : Z.heap.size ≤ w1.heap.size := KV.out.size
          have c5 : w1.cell? ⟨A, 1, none⟩ = some (.slice (some ⟨g, o, none⟩) n c) := by rw [hBV.cell 1]; simp [rbufC]
          have hlen1 : (b.l.take k).length = k := by rw [List.length_take, HP.out.2]; omega
          have hlen2 : (b.l.drop k).length = n - k := by rw [List.length_drop, HP.out.2]
          have r0 : Row (w1.alloc (.cells #[] 56)) (.slice (some ⟨w1.heap.size, 0, none⟩) 0 0) [] := .lies _ 0 (fun _ => 0) [] (Blk.made w1 #[] 56 rfl) (Nat.le_refl _) (by unfold maxLen; omega) (fun q hq => by simp at hq)
          obtain ⟨a2, c2, W1, hr1, row1, t1, o1⟩ := app_is (w1.alloc (.cells #[] 56)) 61 _ [] (b.l.take k) 0 k rfl hlen1 (some ⟨g, o, none⟩) c r0 (.inr ⟨g, o, rfl, ((hIV.below (((Below.refl w1.heap.size w1).alloc (Nat.le_refl _) _)) (by omega)) : Ints _ g o (9 * n) (fl b.l)) |> fun h => ⟨fun i hi => by rw [h.at_ i (by omega), fl_take _ _ _ hi]⟩⟩) (by omega)
          simp only [Nat.zero_add, List.nil_append] at hr1 row1 o1
          have kW1 : Below w1.heap.size w1 W1 := (((Tch.refl [w1.heap.size] w1).alloc _).trans t1).below (Nat.le_refl _) (by simp)
          have ho1 : ∀ q, q ∈ own (.slice a2 k c2) → w1.heap.size ≤ q := fun q hq => by
            rcases o1 q hq with h1 | h1
            · simp [own] at h1; omega
            · simp at h1; omega
          have hnn : (k : Int) ≤ (c : Int) := by omega
          have hA1 : A < w1.heap.size := by omega
          have hk0 : (0 : Int) ≤ (k : Int) := by omega
          go_upto_region 9 with (at_builtin; refine list_appR _ rfl _ _ 61 61 rfl _ _ rfl rfl hr1 ?_)
          clear hr1 t1 o1 r0 c5
          obtain ⟨T, N, hO⟩ := opS
          have hS1 := hSV.below kW1 (by omega)
          have l3 : Sem.run Try.prog (loadCellsFrom ⟨w.heap.size, 0, none⟩ 0 N #[]) W1 = .ok #[.int .i64 (fn x 0), .int .i64 (fn x 1), .int .i64 (fn x 2), .int .i64 (fn x 3), .int .i64 (fn x 4), .int .i64 (fn x 5), .int .i64 (fn x 6), .int .i64 (fn x 7), .int .i64 (fn x 8)] W1 := hO.load _ _ _ _ hS1.ints
          obtain ⟨a3, c3, W2, hr2, row2, t2, o2⟩ := app_is (W1.alloc (.cells #[.int .i64 (fn x 0), .int .i64 (fn x 1), .int .i64 (fn x 2), .int .i64 (fn x 3), .int .i64 (fn x 4), .int .i64 (fn x 5), .int .i64 (fn x 6), .int .i64 (fn x 7), .int .i64 (fn x 8)] 56)) 61 _ (b.l.take k) [x] k 1 hlen1 rfl (some ⟨W1.heap.size, 0, none⟩) 1 (row1.keep ((Tch.refl [] _).alloc _) (by simp)) (.inr ⟨W1.heap.size, 0, rfl, (blk_lit W1 (fn x)).ints.congr (fun j hj => by have := fl_at [x] 0 j hj; simpa using this.symm)⟩) (by omega)
          have kW2 : Below w1.heap.size w1 W2 := kW1.trans ((((Tch.refl (own (.slice a2 k c2)) W1).alloc _).trans t2).below kW1.size ho1)
          have ho2 : ∀ q, q ∈ own (.slice a3 (k + 1) c3) → w1.heap.size ≤ q := fun q hq => by
            rcases o2 q hq with h1 | h1
            · exact ho1 q h1
            · have := kW1.size; simp at h1; omega
          have sa := hO.agg
          have ss := hO.size
          have HO := Lib.hid hO
          rw [show Op.load 56 = Op.load T by rw [hO.is]]
          clear hO
          go_upto_region 10 with (at_builtin; refine list_appR _ rfl _ _ 61 61 rfl _ _ rfl rfl hr2 ?_)
          clear hr2 t2 o2 l3 kW1 ho1 row1 hS1
          have hB2 := hBV.below kW2 (by omega)
          have hS2 := hSV.below kW2 (by omega)
          have hI2 := hIV.below kW2 (by omega)
          have c5 : W2.cell? ⟨A, 1, none⟩ = some (.slice (some ⟨g, o, none⟩) n c) := by rw [hB2.cell 1]; simp [rbufC]
          have hIns : (b.l.take k ++ [x]) ++ b.l.drop k = ins x b.l := by rw [← ins_insU x b.l H.out.srt, HL.out.2.1]; simp
          have hlen3 : (b.l.take k ++ [x]).length = k + 1 := by simp [hlen1]
          have hki : (k : Int) ≤ (n : Int) := by omega
          have key : ∀ (ad : Option Addr) (cc : Nat), (b.l.drop k = [] ∨ ∃ g' o', ad = some ⟨g', o', none⟩ ∧ Ints W2 g' o' (9 * (n - k)) (fl (b.l.drop k))) → ∃ a4 c4 W3, (Builtin.append_ #[61, 61] 61 #[.slice a3 (k + 1) c3, .slice ad (n - k) cc]).run Try.prog W2 = .ok (.slice a4 (n + 1) c4) W3 ∧ Row W3 (.slice a4 (n + 1) c4) (ins x b.l) ∧ Below w1.heap.size w1 W3 ∧ ∀ q, q ∈ own (.slice a4 (n + 1) c4) → w1.heap.size ≤ q := by
            intro ad cc hm
            obtain ⟨a4, c4, W3, h1, h2, h3, h4⟩ := app_is W2 61 _ _ (b.l.drop k) (k + 1) (n - k) hlen3 hlen2 ad cc row2 hm (by omega)
            rw [show k + 1 + (n - k) = n + 1 by omega] at h1 h2 h4
            rw [hIns] at h2
            refine ⟨a4, c4, W3, h1, h2, kW2.trans (h3.below kW2.size ho2), fun q hq => ?_⟩
            rcases h4 q hq with h5 | h5
            · exact ho2 q h5
            · have := kW2.size; omega
          have HK := Lib.hid key
          have HI2 := Lib.hid hI2
          have HBS := Lib.hid (And.intro hBV (And.intro hSV (And.intro hTV kW2)))
          clear key hI2 hB2 hS2 hIV hBV hSV hTV row2 ho2 hIns kW2 hlen3 hlen1
          by_cases hck : c = k
          case' pos =>
            first
              | (exfalso; omega)
              | obtain ⟨a4, c4, W3, hr3, row3, kW3, ho3⟩ := HK.out (some ⟨g, o, none⟩) 0 (.inl (List.eq_nil_of_length_eq_zero (by rw [hlen2]; omega)))
          case' neg =>
            obtain ⟨a4, c4, W3, hr3, row3, kW3, ho3⟩ := HK.out (some ⟨g, o + k * 9, none⟩) (c - k) (.inr ⟨g, _, rfl, ⟨fun i hi => by rw [fl_drop, Nat.add_assoc, HI2.out.at_ (k * 9 + i) (by omega)]; congr 3; omega⟩⟩)
          all_goals
            go_upto_region 11 with (at_builtin; refine list_appR _ rfl _ _ 61 61 rfl _ _ rfl rfl hr3 ?_)
            clear hr3 HK c5 hlen2
            have hB3 := HBS.out.1.below kW3 (by omega)
            have hS3 := HBS.out.2.1.below kW3 (by omega)
            have hT3 := HBS.out.2.2.1.call kW3
            have d1 := hB3.cell 1
            have f1 := hB3.free 1
            simp [rbufC] at d1
            go_upto_region 12 with (fail)
            have hAo : A ∉ own (.slice a4 (n + 1) c4) := fun hm => by have := ho3 A hm; omega
            have k4 : Tch [A] W3 (W3.setCell ⟨A, 1, none⟩ (.slice a4 (n + 1) c4)) := (Tch.refl _ _).set (.inl (by simp)) _ _
            have B4 := blk_setC (i := 1) (u := .slice a4 (n + 1) c4) hB3 rfl
            have R4 := row3.keep k4 (fun q hq hm => by simp at hm; subst hm; exact hAo hq)
            have T4 := hT3.trans k4
            have S4 := k4.blk hS3 (by simp; omega)
            have ho4 : ∀ q, q ∈ own (.slice a4 (n + 1) c4) → w.heap.size < q := fun q hq => by have := ho3 q hq; omega
            generalize W3.setCell ⟨A, 1, none⟩ (.slice a4 (n + 1) c4) = V at *
            clear d1 f1 hB3 hS3 hT3 row3 kW3 ho3 k4 HBS HI2
            have j1 := B4.cell 1
            have j0 := B4.cell 0
            simp [rbufC] at j1 j0
            have HLN : Hid ((ins x b.l).length = n + 1) := Lib.hid (by rw [ins_len, HP.out.2])
            by_cases hfit : n + 1 ≤ b.size
            · have hfI : ¬ (b.size : Int) < (n : Int) + 1 := by omega
              have HF := Lib.hid (And.intro B4 (And.intro R4 (And.intro T4 (And.intro hAo ho4))))
              clear B4 R4 T4 S4 hAo ho4
              go_quiet (fail)
              go_wp2
              go_ret
              have hp : b.putR x = true := by unfold Ring.putR; rw [if_neg (by have := HLE.out; omega), if_pos (by rw [HLN.out]; exact hfit)]
              have hq : b.put x = { b with cIn := b.cIn + 1, l := ins x b.l } := by unfold Ring.put; rw [if_neg (by have := HLE.out; omega), if_pos (by rw [HLN.out]; exact hfit)]
              have kn : Tch [] V (V.drewN nq) := ⟨rfl, rfl, rfl, Nat.le_refl _, fun _ _ _ => rfl⟩
              refine ⟨by rw [hp]; rfl, _, ?_, HF.out.2.2.1.then kn (by simp), fun q hq => .inr (by have := HF.out.2.2.2.2 q hq; omega)⟩
              rw [hq]
              refine ⟨blk_is (kn.blk HF.out.1 (by simp)) (by simp [rbufC]), (HF.out.2.1.keep kn (by simp)).read, HF.out.2.2.2.1, ins_sorted x _ H.out.srt, fun y hy => ?_, by rw [HLN.out]; have := H.out.len; rw [HP.out.2] at this; omega, ?_⟩
              · rcases (ins_mem x b.l).1 hy with rfl | h1
                · exact hx
                · exact H.out.nine y h1
              · have := HS.out
                show b.cIn + 1 = b.late + b.full + b.bad + b.out + (ins x b.l).length
                rw [HLN.out]; omega
            · have hfI : (b.size : Int) < (n : Int) + 1 := by omega
              have w3 : IntKind.i64.wrap ((b.full : Int) + 1) = (b.full : Int) + 1 := by rw [IntKind.wrap_i64]; have := HS.out; omega
              have j5 := B4.cell 5
              have f5 := B4.free 5
              simp [rbufC] at j5
              go_quiet (fail)
              go_upto_region 13 with (fail)
              go_region_law (fail)
              go_upto_region 14 with (fail)
              have k5 : Tch [A] V ((V.drewN (nq + 1)).setCell ⟨A, 5, none⟩ (.int .i64 ((b.full : Int) + 1))) := (show Tch [A] V (V.drewN (nq + 1)) from ⟨rfl, rfl, rfl, Nat.le_refl _, fun _ _ _ => rfl⟩).set (.inl (by simp)) _ _
              have B5 := blk_setC (w := V.drewN (nq + 1)) (i := 5) (u := .int .i64 ((b.full : Int) + 1)) B4 rfl
              have R5 := R4.keep k5 (fun q hq hm => by simp at hm; subst hm; exact hAo hq)
              have T5 := T4.trans k5
              have S5 := k5.blk S4 (by simp; omega)
              generalize (V.drewN (nq + 1)).setCell ⟨A, 5, none⟩ (.int .i64 ((b.full : Int) + 1)) = U at *
              clear k5 B4 R4 T4 S4 j1 j0 j5 f5 w3
              have hhd : ∃ y r, ins x b.l = y :: r ∧ y.length = 9 := by
                rcases hi : ins x b.l with _ | ⟨y, r⟩
                · have := HLN.out; rw [hi] at this; simp at this
                · refine ⟨y, r, rfl, ?_⟩
                  rcases (ins_mem x b.l).1 (by rw [hi]; exact List.mem_cons_self ..) with h1 | h1
                  · rw [h1]; exact hx
                  · exact H.out.nine y h1
              obtain ⟨y, r, hyr, hy9⟩ := hhd
              obtain ⟨gg, c6, hv, hcell⟩ := row_cell R5 (i := 0) (by rw [HLN.out]; omega)
              injection hv with q1 q2 q3
              clear q2
              subst q1 q3
              have hcap : n + 1 ≤ c4 := by
                obtain ⟨a9, c9, h9, h10⟩ := R5.shape
                injection h9 with _ _ e9
                rw [HLN.out] at h10; omega
              have hI5 : Ints U gg 0 9 (fn y) := ⟨fun j hj => by have := hcell j hj; rw [hyr] at this; simpa using this⟩
              have hgU : gg < U.heap.size := R5.lt gg (by simp [own])
              have hIall : Ints U gg 0 (9 * (n + 1)) (fl (ins x b.l)) := by
                have := R5.read
                rcases this.inv with ⟨_, _, h1, h2, _⟩ | ⟨_, _, _, h1, _, _, h3⟩
                · rw [hyr] at h2; cases h2
                · injection h1 with e1 e2 e3
                  injection e1 with e1
                  injection e1 with e1 e4
                  subst e1 e4
                  rw [HLN.out] at h3; exact h3
              have j1 := B5.cell 1
              simp [rbufC] at j1
              have hUz : w.heap.size < U.heap.size := S5.lt
              obtain ⟨T, N, hO⟩ := opS
              have l1 := hO.load _ _ _ _ hI5.drew
              have l2 := hO.load _ _ _ _ S5.ints.drew
              have jd : U.drew.cell? ⟨A, 1, none⟩ = some (.slice (some ⟨gg, 0, none⟩) (n + 1) c4) := j1
              have sa := hO.agg
              have ss := hO.size
              have sl := hO.len
              have sn := hO.eql
              have sg := hO.guard
              have se := hO.eqv
              have HO := Lib.hid hO
              rw [show Op.load 56 = Op.load T by rw [hO.is], show Op.binOp BinOp.eql 56 = Op.binOp BinOp.eql T by rw [hO.is]]
              have HF := Lib.hid (And.intro B5 (And.intro R5 (And.intro T5 (And.intro hAo (And.intro ho4 (And.intro hyr (And.intro hy9 (And.intro hIall (And.intro hgU hcap)))))))))
              clear hO B5 R5 T5 S5 hAo ho4 hyr hy9 hI5 hIall hcell hfI
              have hn0 : (0 : Int) < (n : Int) + 1 := by omega
              go_region_held3 (fun w' => w'.cell? ⟨A, 1, none⟩ = some (.slice (some ⟨gg, 0, none⟩) (n + 1) c4) ∧ Sem.run Try.prog (loadCellsFrom ⟨gg, 0, none⟩ 0 N #[]) w' = .ok (rowA 9 (fn y)) w' ∧ Sem.run Try.prog (loadCellsFrom ⟨w.heap.size, 0, none⟩ 0 N #[]) w' = .ok (rowA 9 (fn x)) w')
                ((first | exact ⟨jd, l1, l2⟩ | exact ⟨(by simpa using j1), l1, l2⟩))
                (first | (go_at_call 36; skip))
              go_upto_region 15 with (fail)
              have hc1 : ¬ c4 = 1 := by have := HF.out.2.2.2.2.2.2.2.2.2; omega
              have hn1 : (1 : Int) ≤ (n : Int) + 1 := by omega
              have jf := HF.out.1.free 1
              have jg : U.drew.frozen? ⟨A, 1, none⟩ = false := jf
              go_wp2_with fail
              go_ret
              have hrl : r.length = n := by have h1 := HLN.out; rw [HF.out.2.2.2.2.2.1] at h1; simpa using h1
              have hp : b.putR x = !(y == x) := by
                unfold Ring.putR; rw [if_neg (by have := HLE.out; omega), if_neg (by rw [HLN.out]; omega), HF.out.2.2.2.2.2.1]; rfl
              have hq : b.put x = { b with cIn := b.cIn + 1, full := b.full + 1, l := r } := by
                unfold Ring.put; rw [if_neg (by have := HLE.out; omega), if_neg (by rw [HLN.out]; omega), HF.out.2.2.2.2.2.1]; rfl
              have k6 : Tch [A] U ((U.setCell ⟨A, 1, none⟩ (.slice (some ⟨gg, 9, none⟩) n (c4 - 1))).drew) := ((Tch.refl _ _).set (.inl (by simp)) _ _).drew
              have hgA2 : gg ≠ A := fun e => HF.out.2.2.2.1 (by simp [own, e])
              refine ⟨by rw [hp, ← eqB_sam HF.out.2.2.2.2.2.2.1 hx]; rfl, .slice (some ⟨gg, 9, none⟩) n (c4 - 1), ?_, HF.out.2.2.1.trans k6, fun q hq => .inr (by simp [own] at hq; have := HF.out.2.2.2.2.1 q (by simp [own, hq]); omega)⟩
              rw [hq]
              refine ⟨blk_is (blk_setC (i := 1) (u := .slice (some ⟨gg, 9, none⟩) n (c4 - 1)) HF.out.1 rfl).drew (by simp [rbufC]), ?_, by simp [own]; exact fun e => hgA2 e.symm, ?_, fun z hz => ?_, by show r.length < 900; have := H.out.len; rw [HP.out.2] at this; omega, ?_⟩
              · show RRow _ _ r
                refine rrow_is hrl (by have := HF.out.2.2.2.2.2.2.2.2.1; have := k6.size; omega) (by have := HF.out.2.2.2.2.2.2.2.2.2; omega) (k6.ints ⟨fun i hi => ?_⟩ HF.out.2.2.2.2.2.2.2.2.1 (by simpa using hgA2))
                have := HF.out.2.2.2.2.2.2.2.1.at_ (9 + i) (by omega)
                rw [Nat.zero_add, HF.out.2.2.2.2.2.1] at this
                rw [this]
                have h2 := fl_drop (y :: r) 1 i
                rw [show i + 9 * 1 = 9 + i by omega] at h2
                rw [← h2]; rfl
              · have := ins_sorted x b.l H.out.srt; rw [HF.out.2.2.2.2.2.1] at this; exact (List.pairwise_cons.1 this).2
              · rcases (ins_mem x b.l).1 (by rw [HF.out.2.2.2.2.2.1]; exact List.mem_cons_of_mem _ hz) with rfl | h1
                · exact hx
                · exact H.out.nine z h1
              · have := HS.out; show b.cIn + 1 = b.late + (b.full + 1) + b.bad + b.out + r.length; omega
end Go.Proofs.Ytdndomknjefgkaa.Rg
