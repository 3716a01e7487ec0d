/- Any calls of a buffer: as the document's own. -/
import Derived.Test.YtdndomknjefgkaaRgPa
import Derived.Test.YtdndomknjefgkaaRgPb
namespace Go.Proofs.Ytdndomknjefgkaa.Rg
open Go.RowKit
/-- What is known of both buffers between two calls. -/
structure Both (b : Ring) (z k : Nat) : Prop where
  len : b.l.length ≤ z
  size : b.size = z
  cnt : b.cIn ≤ k
theorem Both.put {b : Ring} {z k : Nat} (h : Both b z k) (x : Sam) : Both (b.put x) z (k + 1) := by
  have hf := Fits.put (b := b) (n := b.cIn) (size := z) ⟨by rw [h.size]; exact h.len, h.size, rfl⟩ x
  exact ⟨by have h1 := hf.len; rw [hf.size] at h1; exact h1, hf.size, by rw [hf.cnt]; have := h.cnt; omega⟩
theorem Both.pop {b : Ring} {z k : Nat} (h : Both b z k) (u : Int) : Both (b.pop u) z (k + 1) :=
  ⟨by show (b.l.drop _).length ≤ z; rw [List.length_drop]; have := h.len; omega, h.size, by show b.cIn ≤ _; have := h.cnt; omega⟩
/-- What is left of a slice of samples whose head has been written over. -/
inductive Rest (L : List Sam) (a : Option Addr) (k : Nat) (W : World) : Prop
  | none : L = [] → Rest L a k W
  | lies (g : Nat) (cs : Array Value) : a = some ⟨g, 0, .none⟩ → Blk W g cs 56 → (∀ q, 9 * k ≤ q → q < 9 * L.length → cs[q]? = some (.int .i64 (fl L q))) → Rest L a k W
theorem Rest.of {L : List Sam} {a : Option Addr} {m d : Nat} {W : World} (h : Row W (.slice a m d) L) : Rest L a 0 W := by
  rcases h.inv with ⟨_, h1⟩ | ⟨g, cap, F, h1, hB, hc, hm, hF⟩
  · exact .none h1
  · injection h1 with h1
    refine .lies g _ h1 hB fun q _ hq => ?_
    rw [rowA_get F (show q < 9 * cap by omega), hF q hq]
theorem Rest.at_ {L : List Sam} {a : Option Addr} {k : Nat} {W : World} (h : Rest L a k W) (hk : k < L.length) : ∃ g cs, a = some ⟨g, 0, .none⟩ ∧ Blk W g cs 56 ∧ (∀ q, 9 * k ≤ q → q < 9 * L.length → cs[q]? = some (.int .i64 (fl L q))) ∧ Ints W g (k * 9) 9 (fn (L.getD k [])) := by
  cases h with
  | none h => rw [h] at hk; simp at hk
  | lies g cs h1 h2 h3 =>
    refine ⟨g, cs, h1, h2, h3, ⟨fun i hi => ?_⟩⟩
    rw [h2.cell, h3 _ (by omega) (by omega), Nat.mul_comm k 9, fl_at L k i hi]
theorem Rest.set {L : List Sam} {k g : Nat} {W : World} {cs : Array Value} (h2 : Blk W g cs 56) (h3 : ∀ q, 9 * k ≤ q → q < 9 * L.length → cs[q]? = some (.int .i64 (fl L q))) (v : Value) : Rest L (some ⟨g, 0, .none⟩) (k + 1) (W.setCell ⟨g, k * 9, .none⟩ v) := by
  refine .lies g _ rfl (h2.set v) fun q h4 h5 => ?_
  rw [Array.getElem?_setIfInBounds_ne (by omega)]
  exact h3 q (by omega) h5
set_option maxRecDepth 100000 in
set_option maxHeartbeats 32000000 in
theorem plays_walk (a : Int) (ad : Option Addr) (n c : Nat) (l : List Sam) (w : World) (hl : Arg 10 w ad n l) : Calls Try.prog 7 #[.int .i64 a, .slice ad n c] w fun e w' => e = .returned (.bool true) ∧ Below w.heap.size w w' := by
  have hbig := hl.big
  go_enter Try.func7, Try.ntmps7
  go_wp2_with fail
  refine (awake_any w).mono ?_
  rintro e w0 ⟨rfl, k0⟩
  have k0 := Lib.hid k0
  have HL := Lib.hid (hl.below k0.out)
  clear hl
  by_cases ha : a < 1 ∨ 64 < a
  · go_wp2_with fail
    refine (new_bad a w0 ha).mono ?_
    rintro e w1 ⟨rfl, rfl⟩
    by_cases hb : a < 1
    · clear ha
      go_wp2_with fail
      go_ret
      exact ⟨rfl, k0.out⟩
    · have hc : 64 < a := by omega
      clear ha
      go_wp2_with fail
      go_ret
      exact ⟨rfl, k0.out⟩
  · obtain ⟨z, rfl⟩ : ∃ z : Nat, a = (z : Int) := ⟨a.toNat, by omega⟩
    have hz1 : 1 ≤ z := by omega
    have hz2 : z ≤ 64 := by omega
    have e2 : ¬ (z : Int) < 1 := by omega
    have e3 : ¬ (64 : Int) < (z : Int) := by omega
    clear ha
    go_wp2_with fail
    refine (two_new (nothing w0) z hz1 hz2).mono ?_
    rintro e w1 ⟨rfl, s1⟩
    have s1 := Lib.hid s1.swap
    have HZ := Lib.hid (And.intro hz1 hz2)
    by_cases hn : n ≤ 150
    · have e1 : ¬ (150 : Int) < (n : Int) := by omega
      go_wp2_with fail
      refine (two_rnew s1.out z z rfl).mono ?_
      rintro e w2 ⟨rfl, s2⟩
      have s2 := Lib.hid s2
      clear s1 hz1 hz2
      go_wp2_with fail
      clear e2 e3
      generalize w0.heap.size = A1 at *
      generalize w1.heap.size = A2 at *
      go_loopw [8] (fun i wr => ∃ (k : Nat) (b : Ring) (X : List Nat), i = .int .i64 k ∧ k ≤ n ∧ Hid (Both b z k) ∧ Hid (Two w0 (QB A2 b) (PB A1 b) (foot A2) (foot A1) X wr)) (fun i _ => n - (intOf i).toNat)
      case atStart => exact ⟨0, Ring.new z, [], rfl, Nat.zero_le _, Lib.hid ⟨Nat.zero_le _, rfl, Nat.zero_le _⟩, s2⟩
      case round =>
        clear s2
        obtain ⟨k, b, X, rfl, hk, HB, s⟩ := hrel
        have hkI0 : (0 : Int) ≤ (k : Int) := by omega
        by_cases hlt : k < n
        · have hltI : (k : Int) < (n : Int) := by omega
          obtain ⟨gg, oo, r, rfl, _, hr10, hgw, hI0⟩ := HL.out.one hlt
          obtain ⟨op, y, rfl⟩ : ∃ op y, r = op :: y := by
            cases r with
            | nil => simp at hr10
            | cons op y => exact ⟨op, y, rfl⟩
          have hy9 : y.length = 9 := by simpa using hr10
          have hI := hI0.below s.out.K hgw
          have c0 : wr.cell? ⟨gg, oo + k * 10, none⟩ = some (.int .i64 op) := by have := hI.at_ 0 (by omega); rwa [Nat.add_zero] at this
          have HY0 : Ints w0 gg (oo + k * 10 + 1) 9 (fn y) := ⟨fun i hi => by have := hI0.at_ (i + 1) (by omega); rw [Nat.add_assoc (oo + k * 10) 1 i, Nat.add_comm 1 i]; exact this⟩
          have HY := Lib.hid HY0
          clear HY0 hI0 hI hr10
          have hcn : b.cIn < 1000000 := by have := HB.out.cnt; omega
          have HC := Lib.hid hcn
          clear hcn
          by_cases h0 : op = 0
          · subst h0
            go_upto_region 16 with (fail)
            have hz1 := HZ.out.1
            have hz2 : b.size ≤ 200 := by rw [HB.out.size]; have := HZ.out.2; omega
            have hz3 : 1 ≤ b.size := by rw [HB.out.size]; exact hz1
            have hz4 : b.l.length ≤ b.size := by rw [HB.out.size]; exact HB.out.len
            have HP := Lib.hid (two_put s.out.drew.swap y HC.out hy9 hz3 hz2 hz4)
            have HQ : Hid (∀ W, Two w0 (QB A2 b) (PB A1 (b.put y)) (foot A2) (foot A1) X W → Calls Try.prog 21 #[.pointer (some ⟨A2, 0, none⟩), .agg (rowA 9 (fn y))] W fun e w' => e = .returned (.bool (b.putR y)) ∧ Two w0 (QB A2 (b.put y)) (PB A1 (b.put y)) (foot A2) (foot A1) X w') := Lib.hid fun W s => (two_rput s y HC.out hy9 hz3 hz2 hz4).mono fun e w' h => ⟨h.1, h.2.1⟩
            clear hz1 hz2 hz3 hz4 c0
            generalize b.putR y = pr at *
            obtain ⟨T, N, hO⟩ := opS
            have l1 := hO.load _ gg (oo + k * 10 + 1) (fn y) (HY.out.below s.out.drew.K hgw)
            have sa := hO.agg
            have ss := hO.size
            have HO := Lib.hid hO
            rw [show Op.load 56 = Op.load T by rw [hO.is]]
            clear hO
            go_region_held3 (fun w' => Sem.run Try.prog (loadCellsFrom ⟨gg, oo + k * 10 + 1, none⟩ 0 N #[]) w' = .ok (rowA 9 (fn y)) w')
              ((first | exact l1 | exact j1 | exact j2))
              (first
                | (go_at_call 20; refine HP.out.mono ?_; rintro e w7 ⟨rfl, s7, _⟩; have s7 := Lib.hid s7.swap; have j1 := HO.out.load _ _ _ _ (HY.out.below s7.out.K hgw))
                | (go_at_call 21; refine (HQ.out _ s7.out).mono ?_; rintro e w9 ⟨rfl, s9⟩; have s9 := Lib.hid s9; have j2 := HO.out.load _ _ _ _ (HY.out.below s9.out.K hgw)))
            have HB := Lib.hid (HB.out.put y)
            clear l1 j1 j2 sa ss HO HP HQ s s7 HC
            generalize b.put y = b' at *
            go_wp2_with fail
            refine (two_peek s9.out.swap).mono ?_
            rintro e w10 ⟨rfl, k10⟩
            have s10 := Lib.hid (s9.out.call k10)
            obtain ⟨y0, hy0⟩ : ∃ y0, y0 = b'.l.headD [] := ⟨_, rfl⟩
            have hS : Blk (w10.alloc (.cells (rowA 9 fun _ => 0) 56)) w10.heap.size (rowA 9 fun _ => 0) 56 := Blk.made _ _ _ rfl
            rw [← hy0]
            have HY0 := Lib.hid hy0
            clear k10 hy0 s9
            obtain ⟨em, hem⟩ : ∃ em, em = b'.l.isEmpty := ⟨_, rfl⟩
            rw [← hem]
            have HEm := Lib.hid hem
            clear hem
            go_wp2_with ((try rw [zero9]); (with_reducible refine row_store 56 (.tmp 12) (.tmp 121) ?_ ?_ w10.heap.size 9 (fn y0) (fun _ => 0) 56 ?_ ?_ hS samSize ?_); rfl; rfl; rfl; rfl)
            have I12 : Ints ((w10.alloc (.cells (rowA 9 fun _ => 0) 56)).setRow w10.heap.size (rowA 9 (fn y0))) w10.heap.size 0 9 (fn y0) := ⟨fun i hi => by rw [hS.setRow.cell, Nat.zero_add, rowA_get _ hi]⟩
            have s11 := Lib.hid (s10.out.call (below_setRow (b := w10.heap.size) ((Below.refl w10.heap.size w10).alloc (Nat.le_refl _) (.cells (rowA 9 fun _ => 0) 56)) (Nat.le_refl _) (rowA 9 (fn y0))))
            have hlt12 : w10.heap.size < ((w10.alloc (.cells (rowA 9 fun _ => 0) 56)).setRow w10.heap.size (rowA 9 (fn y0))).heap.size := hS.setRow.lt
            clear hS s10
            generalize (w10.alloc (.cells (rowA 9 fun _ => 0) 56)).setRow w10.heap.size (rowA 9 (fn y0)) = W at *
            generalize w10.heap.size = g12 at *
            have hcn2 : b'.cIn ≤ 200 := by have := HB.out.cnt; omega
            have hlen63 : (b'.l.length : Int) ≤ 64 := by have := HB.out.len; have := HZ.out.2; omega
            dsimp only [List.append]
            by_cases hne : b'.l = []
            · have hem : em = true := by rw [HEm.out, hne]; rfl
              subst hem
              simp only [Bool.not_true]
              refine check_poor s11.out hcn2 hlen63 I12 hlt12 HY0.out hne ?_
              intro x123 x124 x125 x126 x127 x128 x129 x130 x131 x132 x133 x134 x135 x136 x137 x138 x139 x140 x141 x142 x143 x144 x145 x146 x147 x148 x149 x150 x151 x152 x153 x154 x155 x156 x157 x158 x159 x160 x161 x162 x163 x164 x165 x166 x167 x168 x169 x170 x171 x172 x173 x174 x175 x176 x177 x178 x179 x180 x181 x182 x183 x184 x185 x186 x187 x188 x189 x190 x191 x192 x193 x194 x195 x196 x197 x198 x199 x200 x201 x202 x203 x204 x205 x206 x207 x208 x209 x210 w9 k9
              have sN := Lib.hid (s11.out.call k9)
              clear s11 I12 hlt12 hlen63 hcn2 HY0 hne HEm
              go_wp2_with fail
              go_roundw
              case rel => exact ⟨k + 1, b', X, by go_num, by omega, HB, sN⟩
              case measure => simp [intOf]; omega
            · have hem : em = false := by rw [HEm.out]; cases hq : b'.l with
                | nil => exact absurd hq hne
                | cons _ _ => rfl
              subst hem
              simp only [Bool.not_false]
              refine check_rich s11.out hcn2 hlen63 I12 hlt12 HY0.out hne ?_
              intro x123 x124 x125 x126 x127 x128 x129 x130 x131 x132 x133 x134 x135 x136 x137 x138 x139 x140 x141 x142 x143 x144 x145 x146 x147 x148 x149 x150 x151 x152 x153 x154 x155 x156 x157 x158 x159 x160 x161 x162 x163 x164 x165 x166 x167 x168 x169 x170 x171 x172 x173 x174 x175 x176 x177 x178 x179 x180 x181 x182 x183 x184 x185 x186 x187 x188 x189 x190 x191 x192 x193 x194 x195 x196 x197 x198 x199 x200 x201 x202 x203 x204 x205 x206 x207 x208 x209 x210 w9 k9
              have sN := Lib.hid (s11.out.call k9)
              clear s11 I12 hlt12 hlen63 hcn2 HY0 hne HEm
              go_wp2_with fail
              go_roundw
              case rel => exact ⟨k + 1, b', X, by go_num, by omega, HB, sN⟩
              case measure => simp [intOf]; omega
          · by_cases h1 : op = 1
            · subst h1
              clear h0
              have HBl := HB
              have c1 : wr.cell? ⟨gg, oo + k * 10 + 1, none⟩ = some (.int .i64 (fn y 0)) := (HY.out.below s.out.K hgw).at_ 0 (by omega)
              generalize hu : fn y 0 = u at *
              go_wp2_with fail
              refine (two_pop s.out.swap u HC.out).mono ?_
              rintro e w3 ⟨a1, d1, rfl, r1, f1, s3, _⟩
              have hm : (List.take (come u b.l) b.l).length ≤ 64 := by have := HB.out.size; rw [List.length_take]; have := come_le u b.l; have := HZ.out.2; have := HB.out.len; omega
              generalize hLm : (List.take (come u b.l) b.l).length = m at *
              have HLm := Lib.hid hLm
              have s3 := Lib.hid s3.swap
              have R1 := Lib.hid r1
              have F1 := Lib.hid f1
              clear hLm r1 f1
              have c1 : w3.cell? ⟨gg, oo + k * 10 + 1, none⟩ = some (.int .i64 u) := by rw [← hu]; exact (HY.out.below s3.out.K hgw).at_ 0 (by omega)
              go_wp2_with fail
              refine (two_rpop s3.out u HC.out).mono ?_
              rintro e w4 ⟨a2, d2, rfl, r2, f2, s4, x4⟩
              rw [HLm.out] at r2 f2 s4
              rw [HLm.out]
              have hrl : ∀ q, q ∈ own (.slice a1 m d1) → q < w3.heap.size := R1.out.lt
              have R1' := Lib.hid (Rest.of (R1.out.same (fun q hq => x4 q (List.mem_append_left _ hq))))
              have hX : Hid (∀ g, a1 = some ⟨g, 0, none⟩ → w0.heap.size ≤ g ∧ g ∈ own (.slice a2 m d2) ++ (own (.slice a1 m d1) ++ X) ∧ g ∉ own (.slice a2 m d2)) := Lib.hid fun g e => by
                subst e
                have hg : g ∈ own (.slice (some ⟨g, 0, none⟩) m d1) := by simp [own]
                exact ⟨Nat.le_trans s.out.K.size (F1.out g hg), List.mem_append_right _ (List.mem_append_left _ hg), fun hm => by have := f2 g hm; have := hrl g hg; omega⟩
              have R2 := Lib.hid r2
              have s4 := Lib.hid s4
              have HB := Lib.hid (HB.out.pop u)
              generalize own (.slice a2 m d2) ++ (own (.slice a1 m d1) ++ X) = X4 at *
              generalize b.pop u = b' at *
              generalize List.take (come u b.l) b.l = L at *
              clear r2 f2 x4 hrl s s3 HC HBl HY hy9 c0 c1 hu R1 F1
              go_wp2_with fail
              go_loopw [11] (fun i wr => ∃ j : Nat, i = .int .i64 j ∧ j ≤ m ∧ Hid (Rest L a1 j wr) ∧ Hid (Row wr (.slice a2 m d2) L) ∧ Hid (Two w0 (QB A2 b') (PB A1 b') (foot A2) (foot A1) X4 wr)) (fun i _ => m - (intOf i).toNat)
              case atStart => exact ⟨0, rfl, Nat.zero_le _, R1', R2, s4⟩
              case round =>
                clear R1' R2 s4
                obtain ⟨j, rfl, hj, R1, R2, s4⟩ := hrel
                by_cases hjm : j < m
                · have hjI : (j : Int) < (m : Int) := by omega
                  have hj0 : (0 : Int) ≤ (j : Int) := by omega
                  obtain ⟨g3, cs, rfl, hB, hcs, i3⟩ := R1.out.at_ (by rw [HLm.out]; exact hjm)
                  obtain ⟨hx1, hx2, hx3⟩ := hX.out g3 rfl
                  obtain ⟨g4, c6, hv4, t4⟩ := row_cell R2.out (i := j) (by rw [HLm.out]; exact hjm)
                  have i4 : Ints wr g4 (j * 9) 9 (fn (L.getD j [])) := ⟨fun i hi => t4 i hi⟩
                  injection hv4 with e4 e4b e4c
                  clear e4b e4c t4
                  subst e4
                  have c3 : wr.drew.cell? ⟨g3, j * 9, none⟩ = some (.int .i64 (fn (L.getD j []) 0)) := i3.at_ 0 (by omega)
                  have f3 : wr.drew.frozen? ⟨g3, j * 9, none⟩ = false := hB.drew.free (j * 9)
                  have HCS := Lib.hid hcs
                  have HBk := Lib.hid hB
                  generalize L.getD j [] = y at *
                  clear hcs hB
                  obtain ⟨T, N, hO⟩ := opS
                  have l1 := hO.load _ g3 (j * 9) (fn y) i3.drew
                  have l2 := hO.load _ g4 (j * 9) (fn y) i4.drew
                  have he : eqB 9 (fn y) (fn y) = true := eqB_same 9 (fn y)
                  have sa := hO.agg
                  have ss := hO.size
                  have sl := hO.len
                  have sn := hO.neq
                  have sg := hO.guard
                  have se := hO.eqv
                  go_upto_region 26 with (fail)
                  rw [show Op.load 56 = Op.load T by rw [hO.is], show Op.binOp BinOp.neq 56 = Op.binOp BinOp.neq T by rw [hO.is]]
                  clear hO i3 i4
                  go_region_held3 (fun w' => Sem.run Try.prog (loadCellsFrom ⟨g3, j * 9, none⟩ 0 N #[]) w' = .ok (rowA 9 (fn y)) w' ∧ Sem.run Try.prog (loadCellsFrom ⟨g4, j * 9, none⟩ 0 N #[]) w' = .ok (rowA 9 (fn y)) w')
                    ((first | exact ⟨l1, l2⟩))
                    (first | (go_at_call 28; skip))
                  clear l1 l2 sa ss sl sn sg se he
                  go_wp2_with fail
                  go_roundw
                  case rel => exact ⟨j + 1, by go_num, by omega, Lib.hid (Rest.set HBk.out.drew HCS.out _), Lib.hid (R2.out.keep (((Tch.refl [g3] wr).drew).set (.inl (List.mem_cons_self ..)) _ _) (fun q hq hm => hx3 (by simp at hm; rw [← hm]; exact hq))), Lib.hid (s4.out.touch (((Tch.refl [g3] wr).drew).set (.inl (List.mem_cons_self ..)) _ _) (fun q hq => by simp at hq; subst hq; exact ⟨hx1, hx2⟩))⟩
                  case measure => simp [intOf]; omega
                · obtain rfl : j = m := by omega
                  have s9 := s4
                  clear R1 R2 s4 hX hm HLm
                  go_wp2_with fail
                  refine (two_peek s9.out.swap).mono ?_
                  rintro e w10 ⟨rfl, k10⟩
                  have s10 := Lib.hid (s9.out.call k10)
                  obtain ⟨y0, hy0⟩ : ∃ y0, y0 = b'.l.headD [] := ⟨_, rfl⟩
                  have hS : Blk (w10.alloc (.cells (rowA 9 fun _ => 0) 56)) w10.heap.size (rowA 9 fun _ => 0) 56 := Blk.made _ _ _ rfl
                  rw [← hy0]
                  have HY0 := Lib.hid hy0
                  clear k10 hy0 s9
                  obtain ⟨em, hem⟩ : ∃ em, em = b'.l.isEmpty := ⟨_, rfl⟩
                  rw [← hem]
                  have HEm := Lib.hid hem
                  clear hem
                  go_wp2_with ((try rw [zero9]); (with_reducible refine row_store 56 (.tmp 12) (.tmp 121) ?_ ?_ w10.heap.size 9 (fn y0) (fun _ => 0) 56 ?_ ?_ hS samSize ?_); rfl; rfl; rfl; rfl)
                  have I12 : Ints ((w10.alloc (.cells (rowA 9 fun _ => 0) 56)).setRow w10.heap.size (rowA 9 (fn y0))) w10.heap.size 0 9 (fn y0) := ⟨fun i hi => by rw [hS.setRow.cell, Nat.zero_add, rowA_get _ hi]⟩
                  have s11 := Lib.hid (s10.out.call (below_setRow (b := w10.heap.size) ((Below.refl w10.heap.size w10).alloc (Nat.le_refl _) (.cells (rowA 9 fun _ => 0) 56)) (Nat.le_refl _) (rowA 9 (fn y0))))
                  have hlt12 : w10.heap.size < ((w10.alloc (.cells (rowA 9 fun _ => 0) 56)).setRow w10.heap.size (rowA 9 (fn y0))).heap.size := hS.setRow.lt
                  clear hS s10
                  generalize (w10.alloc (.cells (rowA 9 fun _ => 0) 56)).setRow w10.heap.size (rowA 9 (fn y0)) = W at *
                  generalize w10.heap.size = g12 at *
                  have hcn2 : b'.cIn ≤ 200 := by have := HB.out.cnt; omega
                  have hlen63 : (b'.l.length : Int) ≤ 64 := by have := HB.out.len; have := HZ.out.2; omega
                  dsimp only [List.append]
                  by_cases hne : b'.l = []
                  · have hem : em = true := by rw [HEm.out, hne]; rfl
                    subst hem
                    simp only [Bool.not_true]
                    refine check_poor s11.out hcn2 hlen63 I12 hlt12 HY0.out hne ?_
                    intro x123 x124 x125 x126 x127 x128 x129 x130 x131 x132 x133 x134 x135 x136 x137 x138 x139 x140 x141 x142 x143 x144 x145 x146 x147 x148 x149 x150 x151 x152 x153 x154 x155 x156 x157 x158 x159 x160 x161 x162 x163 x164 x165 x166 x167 x168 x169 x170 x171 x172 x173 x174 x175 x176 x177 x178 x179 x180 x181 x182 x183 x184 x185 x186 x187 x188 x189 x190 x191 x192 x193 x194 x195 x196 x197 x198 x199 x200 x201 x202 x203 x204 x205 x206 x207 x208 x209 x210 w9 k9
                    have sN := Lib.hid (s11.out.call k9)
                    clear s11 I12 hlt12 hlen63 hcn2 HY0 hne HEm
                    go_wp2_with fail
                    go_roundw
                    case rel => exact ⟨k + 1, b', X4, by go_num, by omega, HB, sN⟩
                    case measure => simp [intOf]; omega
                  · have hem : em = false := by rw [HEm.out]; cases hq : b'.l with
                      | nil => exact absurd hq hne
                      | cons _ _ => rfl
                    subst hem
                    simp only [Bool.not_false]
                    refine check_rich s11.out hcn2 hlen63 I12 hlt12 HY0.out hne ?_
                    intro x123 x124 x125 x126 x127 x128 x129 x130 x131 x132 x133 x134 x135 x136 x137 x138 x139 x140 x141 x142 x143 x144 x145 x146 x147 x148 x149 x150 x151 x152 x153 x154 x155 x156 x157 x158 x159 x160 x161 x162 x163 x164 x165 x166 x167 x168 x169 x170 x171 x172 x173 x174 x175 x176 x177 x178 x179 x180 x181 x182 x183 x184 x185 x186 x187 x188 x189 x190 x191 x192 x193 x194 x195 x196 x197 x198 x199 x200 x201 x202 x203 x204 x205 x206 x207 x208 x209 x210 w9 k9
                    have sN := Lib.hid (s11.out.call k9)
                    clear s11 I12 hlt12 hlen63 hcn2 HY0 hne HEm
                    go_wp2_with fail
                    go_roundw
                    case rel => exact ⟨k + 1, b', X4, by go_num, by omega, HB, sN⟩
                    case measure => simp [intOf]; omega
            · go_wp2_with fail
              refine (two_spoilt s.out.swap HC.out).mono ?_
              rintro e w3 ⟨rfl, s3, _⟩
              have s3 := Lib.hid s3.swap
              go_wp2_with fail
              refine (two_rspoilt s3.out HC.out).mono ?_
              rintro e w9 ⟨rfl, s9, _⟩
              have s9 := Lib.hid s9
              have HB : Hid (Both b.spoilt z (k + 1)) := Lib.hid ⟨HB.out.len, HB.out.size, by show b.cIn + 1 ≤ _; have := HB.out.cnt; omega⟩
              generalize b.spoilt = b' at *
              clear s s3 HC
              go_wp2_with fail
              refine (two_peek s9.out.swap).mono ?_
              rintro e w10 ⟨rfl, k10⟩
              have s10 := Lib.hid (s9.out.call k10)
              obtain ⟨y0, hy0⟩ : ∃ y0, y0 = b'.l.headD [] := ⟨_, rfl⟩
              have hS : Blk (w10.alloc (.cells (rowA 9 fun _ => 0) 56)) w10.heap.size (rowA 9 fun _ => 0) 56 := Blk.made _ _ _ rfl
              rw [← hy0]
              have HY0 := Lib.hid hy0
              clear k10 hy0 s9
              obtain ⟨em, hem⟩ : ∃ em, em = b'.l.isEmpty := ⟨_, rfl⟩
              rw [← hem]
              have HEm := Lib.hid hem
              clear hem
              go_wp2_with ((try rw [zero9]); (with_reducible refine row_store 56 (.tmp 12) (.tmp 121) ?_ ?_ w10.heap.size 9 (fn y0) (fun _ => 0) 56 ?_ ?_ hS samSize ?_); rfl; rfl; rfl; rfl)
              have I12 : Ints ((w10.alloc (.cells (rowA 9 fun _ => 0) 56)).setRow w10.heap.size (rowA 9 (fn y0))) w10.heap.size 0 9 (fn y0) := ⟨fun i hi => by rw [hS.setRow.cell, Nat.zero_add, rowA_get _ hi]⟩
              have s11 := Lib.hid (s10.out.call (below_setRow (b := w10.heap.size) ((Below.refl w10.heap.size w10).alloc (Nat.le_refl _) (.cells (rowA 9 fun _ => 0) 56)) (Nat.le_refl _) (rowA 9 (fn y0))))
              have hlt12 : w10.heap.size < ((w10.alloc (.cells (rowA 9 fun _ => 0) 56)).setRow w10.heap.size (rowA 9 (fn y0))).heap.size := hS.setRow.lt
              clear hS s10
              generalize (w10.alloc (.cells (rowA 9 fun _ => 0) 56)).setRow w10.heap.size (rowA 9 (fn y0)) = W at *
              generalize w10.heap.size = g12 at *
              have hcn2 : b'.cIn ≤ 200 := by have := HB.out.cnt; omega
              have hlen63 : (b'.l.length : Int) ≤ 64 := by have := HB.out.len; have := HZ.out.2; omega
              dsimp only [List.append]
              by_cases hne : b'.l = []
              · have hem : em = true := by rw [HEm.out, hne]; rfl
                subst hem
                simp only [Bool.not_true]
                refine check_poor s11.out hcn2 hlen63 I12 hlt12 HY0.out hne ?_
                intro x123 x124 x125 x126 x127 x128 x129 x130 x131 x132 x133 x134 x135 x136 x137 x138 x139 x140 x141 x142 x143 x144 x145 x146 x147 x148 x149 x150 x151 x152 x153 x154 x155 x156 x157 x158 x159 x160 x161 x162 x163 x164 x165 x166 x167 x168 x169 x170 x171 x172 x173 x174 x175 x176 x177 x178 x179 x180 x181 x182 x183 x184 x185 x186 x187 x188 x189 x190 x191 x192 x193 x194 x195 x196 x197 x198 x199 x200 x201 x202 x203 x204 x205 x206 x207 x208 x209 x210 w9 k9
                have sN := Lib.hid (s11.out.call k9)
                clear s11 I12 hlt12 hlen63 hcn2 HY0 hne HEm
                go_wp2_with fail
                go_roundw
                case rel => exact ⟨k + 1, b', X, by go_num, by omega, HB, sN⟩
                case measure => simp [intOf]; omega
              · have hem : em = false := by rw [HEm.out]; cases hq : b'.l with
                  | nil => exact absurd hq hne
                  | cons _ _ => rfl
                subst hem
                simp only [Bool.not_false]
                refine check_rich s11.out hcn2 hlen63 I12 hlt12 HY0.out hne ?_
                intro x123 x124 x125 x126 x127 x128 x129 x130 x131 x132 x133 x134 x135 x136 x137 x138 x139 x140 x141 x142 x143 x144 x145 x146 x147 x148 x149 x150 x151 x152 x153 x154 x155 x156 x157 x158 x159 x160 x161 x162 x163 x164 x165 x166 x167 x168 x169 x170 x171 x172 x173 x174 x175 x176 x177 x178 x179 x180 x181 x182 x183 x184 x185 x186 x187 x188 x189 x190 x191 x192 x193 x194 x195 x196 x197 x198 x199 x200 x201 x202 x203 x204 x205 x206 x207 x208 x209 x210 w9 k9
                have sN := Lib.hid (s11.out.call k9)
                clear s11 I12 hlt12 hlen63 hcn2 HY0 hne HEm
                go_wp2_with fail
                go_roundw
                case rel => exact ⟨k + 1, b', X, by go_num, by omega, HB, sN⟩
                case measure => simp [intOf]; omega
        · obtain rfl : k = n := by omega
          go_wp2_with fail
          go_ret
          exact ⟨rfl, k0.out.trans (s.out.K.mono k0.out.size)⟩
    · have e1 : (150 : Int) < (n : Int) := by omega
      go_wp2_with fail
      go_ret
      exact ⟨rfl, k0.out.trans (s1.out.K.mono k0.out.size)⟩
end Go.Proofs.Ytdndomknjefgkaa.Rg
