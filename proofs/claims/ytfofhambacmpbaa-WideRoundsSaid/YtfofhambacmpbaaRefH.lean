/- The document's own numbers: quotient and rest, bit by bit. -/
import Derived.Test.YtfofhambacmpbaaDivD
import Derived.Deep.DeepCutAuto
namespace Go.Proofs.Ytfofhambacmpbaa
open Go.RowKit

/-- The six rows of divide. -/
structure Div6 (w wr : World) (a d r q : Nat) : Prop where
  b2 : Has8 wr 36 w.heap.size (dg a)
  b3 : Has8 wr 36 (w.heap.size + 1) (dg d)
  b4 : Has8 wr 36 (w.heap.size + 2) (fun _ => 0)
  b5 : Has8 wr 36 (w.heap.size + 3) (fun _ => 0)
  b6 : Has8 wr 36 (w.heap.size + 4) (dg q)
  b7 : Has8 wr 36 (w.heap.size + 5) (dg r)
  below : Below w.heap.size w wr
theorem Div6.call {w w1 w2 : World} {a d r q : Nat} (h : Div6 w w1 a d r q) (hb : Below w1.heap.size w1 w2) : Div6 w w2 a d r q :=
  ⟨h.b2.below hb h.b2.lt, h.b3.below hb h.b3.lt, h.b4.below hb h.b4.lt, h.b5.below hb h.b5.lt, h.b6.below hb h.b6.lt, h.b7.below hb h.b7.lt, h.below.trans (hb.mono h.below.size)⟩
theorem Div6.drew {w w1 : World} {a d r q : Nat} (h : Div6 w w1 a d r q) : Div6 w w1.drew a d r q := ⟨h.b2, h.b3, h.b4, h.b5, h.b6, h.b7, h.below.drew⟩
theorem has8_all {w : World} {t : TypeId} {B : Nat} {f : Nat → Int} (h : Has8 w t B f) (g : Nat → Int) :
    Has8 ((((((((w.setCell ⟨B, 0, none⟩ (.int .u64 (g 0))).setCell ⟨B, 1, none⟩ (.int .u64 (g 1))).setCell ⟨B, 2, none⟩ (.int .u64 (g 2))).setCell ⟨B, 3, none⟩ (.int .u64 (g 3))).setCell ⟨B, 4, none⟩ (.int .u64 (g 4))).setCell ⟨B, 5, none⟩ (.int .u64 (g 5))).setCell ⟨B, 6, none⟩ (.int .u64 (g 6))).setCell ⟨B, 7, none⟩ (.int .u64 (g 7))) t B g := by
  have h' : Blk w B #[.int .u64 (f 0), .int .u64 (f 1), .int .u64 (f 2), .int .u64 (f 3), .int .u64 (f 4), .int .u64 (f 5), .int .u64 (f 6), .int .u64 (f 7)] t := h
  exact blk_set8 h' _ _ _ _ _ _ _ _
theorem has8_far {w : World} {t : TypeId} {B b : Nat} {f : Nat → Int} (h : Has8 w t B f) (hb : B ≠ b) (v0 v1 v2 v3 v4 v5 v6 v7 : Value) :
    Has8 ((((((((w.setCell ⟨b, 0, none⟩ v0).setCell ⟨b, 1, none⟩ v1).setCell ⟨b, 2, none⟩ v2).setCell ⟨b, 3, none⟩ v3).setCell ⟨b, 4, none⟩ v4).setCell ⟨b, 5, none⟩ v5).setCell ⟨b, 6, none⟩ v6).setCell ⟨b, 7, none⟩ v7) t B f :=
  (((((((h.other hb _).other hb _).other hb _).other hb _).other hb _).other hb _).other hb _).other hb _
/-- The rest's row is written anew. -/
theorem Div6.rest {w w1 : World} {a d r q : Nat} (h : Div6 w w1 a d r q) (r' : Nat) :
    Div6 w ((((((((w1.setCell ⟨w.heap.size + 5, 0, none⟩ (.int .u64 (dg r' 0))).setCell ⟨w.heap.size + 5, 1, none⟩ (.int .u64 (dg r' 1))).setCell ⟨w.heap.size + 5, 2, none⟩ (.int .u64 (dg r' 2))).setCell ⟨w.heap.size + 5, 3, none⟩ (.int .u64 (dg r' 3))).setCell ⟨w.heap.size + 5, 4, none⟩ (.int .u64 (dg r' 4))).setCell ⟨w.heap.size + 5, 5, none⟩ (.int .u64 (dg r' 5))).setCell ⟨w.heap.size + 5, 6, none⟩ (.int .u64 (dg r' 6))).setCell ⟨w.heap.size + 5, 7, none⟩ (.int .u64 (dg r' 7))) a d r' q :=
  ⟨has8_far h.b2 (by omega) _ _ _ _ _ _ _ _, has8_far h.b3 (by omega) _ _ _ _ _ _ _ _, has8_far h.b4 (by omega) _ _ _ _ _ _ _ _, has8_far h.b5 (by omega) _ _ _ _ _ _ _ _, has8_far h.b6 (by omega) _ _ _ _ _ _ _ _, has8_all h.b7 (dg r'), Below.set8 (by omega) h.below _ _ _ _ _ _ _ _⟩
theorem Div6.bit {w w1 : World} {a d r q b : Nat} (h : Div6 w w1 a d (2 * r) q) (hb : b < 2) {v : Int} (hv : v = dg (2 * r + b) 0) : Div6 w (w1.setCell ⟨w.heap.size + 5, 0, none⟩ (.int .u64 v)) a d (2 * r + b) q := by
  subst hv
  exact ⟨h.b2.other (by simp) _, h.b3.other (by simp) _, h.b4.other (by simp) _, h.b5.other (by simp) _, h.b6.other (by simp) _, (h.b7.set 0 (by omega) _).congr fun j _ => low_row r b j hb, h.below.setCell (by simp) _⟩
theorem Div6.quot {w w1 : World} {a d r Q i : Nat} (h : Div6 w w1 a d r (Q * 2 ^ (i + 1))) (hi : i < 256) {v : Int} (hv : v = dg (Q * 2 ^ (i + 1) + 2 ^ i) (i / 32)) :
    Div6 w (w1.setCell ⟨w.heap.size + 4, i / 32, none⟩ (.int .u64 v)) a d r (Q * 2 ^ (i + 1) + 2 ^ i) := by
  subst hv
  exact ⟨h.b2.other (by simp) _, h.b3.other (by simp) _, h.b4.other (by simp) _, h.b5.other (by simp) _, (h.b6.set (i / 32) (by omega) _).congr fun j _ => bit_row Q i j, h.b7.other (by simp) _, h.below.setCell (by simp) _⟩
theorem plus_at (m n s : Nat) (w : World) (hs : m + n = s) :
    Calls Try.prog 71 #[A8 m, A8 n] w fun e w' => e = .returned (A8 s) ∧ Below w.heap.size w w' := by
  subst hs; exact plus_any m n w
theorem less_is (m n : Nat) (b : Bool) (w : World) (hm : m < B8) (hn : n < B8) (hb : decide (m < n) = b) :
    Calls Try.prog 72 #[A8 m, A8 n] w fun e w' => e = .returned (.bool b) ∧ Below w.heap.size w w' := by
  subst hb; exact less_any m n w hm hn
theorem minus_at (m n s : Nat) (w : World) (hn : n ≤ m) (hs : m - n = s) :
    Calls Try.prog 73 #[A8 m, A8 n] w fun e w' => e = .returned (A8 s) ∧ Below w.heap.size w w' := by
  subst hs; exact minus_any m n w hn
theorem bit_at (n k : Nat) (x : Int) (hk : k < 256) (w : World) (hx : x = k) :
    Calls Try.prog 85 #[A8 n, .int .i64 x] w fun e w' => e = .returned (.int .u64 ((n / 2 ^ k % 2 : Nat) : Int)) ∧ Below w.heap.size w w' := by
  subst hx; exact bit_any n k hk w
set_option maxRecDepth 100000 in
set_option maxHeartbeats 8000000 in
theorem divide_any (a d : Nat) (w : World) (ha : a < B8) (hd0 : 0 < d) (hd : 2 * d ≤ B8) :
    Calls Try.prog 77 #[A8 a, A8 d] w fun e w' => e = .returned (.tuple #[A8 (a / d), A8 (a % d)]) ∧ Below w.heap.size w w' := by
  have hdB : d < B8 := by omega
  go_enter Try.func77, Try.ntmps77
  go_wp2_with fail
  generalize hW : World.alloc (World.alloc (World.alloc (World.alloc (World.alloc (World.alloc w _) _) _) _) _) _ = W
  have hS : Div6 w W a d 0 0 := by
    subst hW
    have z : ∀ j, j < 8 → (fun _ : Nat => (0 : Int)) j = dg 0 j := fun j _ => by unfold dg; simp
    refine ⟨?_, ?_, ?_, ?_, ?_, ?_, ?_⟩
    · exact (((((Has8.made w _ (dg a)).alloc _).alloc _).alloc _).alloc _).alloc _
    · exact ((((Has8.made_at _ _ (by simp) (dg d)).alloc _).alloc _).alloc _).alloc _
    · exact (((Has8.made_at _ _ (by simp) (fun _ => 0)).alloc _).alloc _).alloc _
    · exact ((Has8.made_at _ _ (by simp) (fun _ => 0)).alloc _).alloc _
    · exact ((Has8.made_at _ _ (by simp) (fun _ => 0)).alloc _).congr z
    · exact (Has8.made_at _ _ (by simp) (fun _ => 0)).congr z
    · exact ((((((Below.refl _ _).alloc (Nat.le_refl _) _).alloc (by simp) _).alloc (by simp; omega) _).alloc (by simp; omega) _).alloc (by simp; omega) _).alloc (by simp; omega) _
  clear hW
  go_loopw [8] (fun s8 wr => ∃ t : Nat, t ≤ 256 ∧ s8 = .int .i64 ((t : Int) - 1) ∧ Div6 w wr a d (a / 2 ^ t % d) (a / 2 ^ t / d * 2 ^ t)) (fun s8 _ => (intOf s8 + 1).toNat)
  case atStart =>
    obtain ⟨e1, e2⟩ := div_start a d ha
    exact ⟨256, by omega, rfl, by rw [e1, e2]; exact hS⟩
  case round =>
    clear hS
    obtain ⟨t, ht, rfl, hD⟩ := hrel
    by_cases h0 : t = 0
    · subst h0
      rw [show ((0 : Nat) : Int) - 1 = -1 by omega]
      rw [show a / 2 ^ 0 % d = a % d by simp, show a / 2 ^ 0 / d * 2 ^ 0 = a / d by simp] at hD
      obtain ⟨r0, r1, r2, r3, r4, r5, r6, r7⟩ := hD.b7.cells
      obtain ⟨q0, q1, q2, q3, q4, q5, q6, q7⟩ := hD.b6.cells
      obtain ⟨x0, x1, x2, x3, x4, x5, x6, x7⟩ := hD.b4.cells
      obtain ⟨y0, y1, y2, y3, y4, y5, y6, y7⟩ := hD.b5.cells
      have gx := hD.b4.free
      have gy := hD.b5.free
      go_wp2_with fail
      go_region
      have h1 := has8_far (has8_all hD.b4 (dg (a / d))) (b := w.heap.size + 3) (by omega) (.int .u64 (dg (a % d) 0)) (.int .u64 (dg (a % d) 1)) (.int .u64 (dg (a % d) 2)) (.int .u64 (dg (a % d) 3)) (.int .u64 (dg (a % d) 4)) (.int .u64 (dg (a % d) 5)) (.int .u64 (dg (a % d) 6)) (.int .u64 (dg (a % d) 7))
      have h2 := has8_all (has8_far hD.b5 (b := w.heap.size + 2) (by omega) (.int .u64 (dg (a / d) 0)) (.int .u64 (dg (a / d) 1)) (.int .u64 (dg (a / d) 2)) (.int .u64 (dg (a / d) 3)) (.int .u64 (dg (a / d) 4)) (.int .u64 (dg (a / d) 5)) (.int .u64 (dg (a / d) 6)) (.int .u64 (dg (a / d) 7))) (dg (a % d))
      have h3 := Below.set8 (b := w.heap.size + 3) (by omega) (Below.set8 (b := w.heap.size + 2) (by omega) hD.below (.int .u64 (dg (a / d) 0)) (.int .u64 (dg (a / d) 1)) (.int .u64 (dg (a / d) 2)) (.int .u64 (dg (a / d) 3)) (.int .u64 (dg (a / d) 4)) (.int .u64 (dg (a / d) 5)) (.int .u64 (dg (a / d) 6)) (.int .u64 (dg (a / d) 7))) (.int .u64 (dg (a % d) 0)) (.int .u64 (dg (a % d) 1)) (.int .u64 (dg (a % d) 2)) (.int .u64 (dg (a % d) 3)) (.int .u64 (dg (a % d) 4)) (.int .u64 (dg (a % d) 5)) (.int .u64 (dg (a % d) 6)) (.int .u64 (dg (a % d) 7))
      clear hD r0 r1 r2 r3 r4 r5 r6 r7 q0 q1 q2 q3 q4 q5 q6 q7 x0 x1 x2 x3 x4 x5 x6 x7 y0 y1 y2 y3 y4 y5 y6 y7 gx gy
      generalize hV : World.setCell _ _ _ = V at h1 h2 h3
      obtain ⟨x0, x1, x2, x3, x4, x5, x6, x7⟩ := h1.cells
      obtain ⟨y0, y1, y2, y3, y4, y5, y6, y7⟩ := h2.cells
      go_wp2_with fail
      exact bodyPost_ret (v := .tuple #[A8 (a / d), A8 (a % d)]) (by simp [results, Try.results77, go_sem, x0, x1, x2, x3, x4, x5, x6, x7, y0, y1, y2, y3, y4, y5, y6, y7]) rfl ⟨rfl, h3.drew⟩
    · obtain ⟨i, rfl⟩ : ∃ i, t = i + 1 := ⟨t - 1, by omega⟩
      rw [show ((i + 1 : Nat) : Int) - 1 = (i : Int) by omega]
      have i0 : (0 : Int) ≤ i := by omega
      have hi : i < 256 := by omega
      obtain ⟨r0, r1, r2, r3, r4, r5, r6, r7⟩ := hD.b7.cells
      have g7 := hD.b7.free
      go_wp2_with fail
      refine (plus_at (a / 2 ^ (i + 1) % d) (a / 2 ^ (i + 1) % d) (2 * (a / 2 ^ (i + 1) % d)) _ (by omega)).mono ?_
      rintro e w1 ⟨rfl, hb⟩
      have hD := hD.call hb
      clear hb r0 r1 r2 r3 r4 r5 r6 r7 g7
      have g7 := hD.b7.free
      obtain ⟨r0, r1, r2, r3, r4, r5, r6, r7⟩ := hD.b7.cells
      go_upto_region 7 with (fail)
      generalize hZ : World.setCell _ _ _ = Z
      have hD := hD.rest (2 * (a / 2 ^ (i + 1) % d))
      rw [hZ] at hD
      clear hZ r0 r1 r2 r3 r4 r5 r6 r7 g7
      have hbit : a / 2 ^ i % 2 < 2 := Nat.mod_lt _ (by omega)
      go_cut [] (fun wx => Div6 w wx a d (dR a d i) (a / 2 ^ (i + 1) / d * 2 ^ (i + 1)))
      case first =>
        have g7 := hD.b7.free
        obtain ⟨r0, r1, r2, r3, r4, r5, r6, r7⟩ := hD.b7.cells
        obtain ⟨a0, a1, a2, a3, a4, a5, a6, a7⟩ := hD.b2.cells
        have OL := Lib.hid (or_low (a / 2 ^ (i + 1) % d) (a / 2 ^ i % 2) hbit)
        go_region_with (first
          | (go_at_call 85; refine (bit_at a i _ hi _ (by first | rfl | omega)).mono ?_; rintro e w2 ⟨rfl, hb2⟩; have hD2 := Div6.call (by first | exact hD | exact hD.drew) hb2; have h7 := hD2.b7.free; have h70 := hD2.b7.cell 0 (by omega)))
        all_goals
          go_wp2_with fail
          go_meet
          exact hD2.bit hbit OL.out
      case rest =>
        have hD := hcut
        clear hcut hbit
        obtain ⟨r0, r1, r2, r3, r4, r5, r6, r7⟩ := hD.b7.cells
        obtain ⟨d0, d1, d2, d3, d4, d5, d6, d7⟩ := hD.b3.cells
        have hRB : dR a d i < B8 := Nat.lt_of_lt_of_le (dR_lt a d i hd0) hd
        by_cases hge : d ≤ dR a d i
        · obtain ⟨e1, e2⟩ := dR_ge a d i hd0 hge
          have E1 := Lib.hid e1
          have E2 := Lib.hid e2
          clear e1 e2
          have hq0 : (0 : Int) ≤ (i : Int) / 32 := by omega
          have hq8 : (i : Int) / 32 < 8 := by omega
          have hqn : i / 32 < 8 := by omega
          have hr0 : (0 : Int) ≤ (i : Int) % 32 := by omega
          have hr1 : (i : Int) % 32 < 32 := by omega
          go_wp2_with fail
          refine (less_is (dR a d i) d false _ hRB hdB (decide_eq_false (by omega))).mono ?_
          rintro e w3 ⟨rfl, hb⟩
          have hD := hD.call hb
          clear hb r0 r1 r2 r3 r4 r5 r6 r7 d0 d1 d2 d3 d4 d5 d6 d7
          obtain ⟨r0, r1, r2, r3, r4, r5, r6, r7⟩ := hD.b7.cells
          obtain ⟨d0, d1, d2, d3, d4, d5, d6, d7⟩ := hD.b3.cells
          go_wp2_with fail
          refine (minus_at (dR a d i) d (a / 2 ^ i % d) _ hge E1.out.symm).mono ?_
          rintro e w4 ⟨rfl, hb⟩
          have hD := hD.call hb
          clear hb r0 r1 r2 r3 r4 r5 r6 r7 d0 d1 d2 d3 d4 d5 d6 d7
          have g7 := hD.b7.free
          obtain ⟨r0, r1, r2, r3, r4, r5, r6, r7⟩ := hD.b7.cells
          go_upto_region 10 with (fail)
          generalize hZ : World.setCell _ _ _ = Z
          have hD := hD.rest (a / 2 ^ i % d)
          rw [hZ] at hD
          clear hZ r0 r1 r2 r3 r4 r5 r6 r7 g7
          have q0 := hD.b6.cell (i / 32) hqn
          have g6 := hD.b6.free (i / 32)
          have OB := Lib.hid (or_bit (a / 2 ^ (i + 1) / d) i)
          go_wp2_with fail
          go_roundw
          case rel => exact ⟨i, by omega, by congr 1, by rw [E2.out]; exact hD.quot hi OB.out⟩
          case measure => simp [intOf]
        · obtain ⟨e1, e2⟩ := dR_no a d i hd0 (by omega)
          have E1 := Lib.hid e1
          have E2 := Lib.hid e2
          clear e1 e2
          go_wp2_with fail
          refine (less_is (dR a d i) d true _ hRB hdB (decide_eq_true (by omega))).mono ?_
          rintro e w3 ⟨rfl, hb⟩
          have hD := hD.call hb
          clear hb r0 r1 r2 r3 r4 r5 r6 r7 d0 d1 d2 d3 d4 d5 d6 d7
          go_wp2_with fail
          go_roundw
          case rel => exact ⟨i, by omega, by congr 1, by rw [E1.out, E2.out]; exact hD⟩
          case measure => simp [intOf]
end Go.Proofs.Ytfofhambacmpbaa
