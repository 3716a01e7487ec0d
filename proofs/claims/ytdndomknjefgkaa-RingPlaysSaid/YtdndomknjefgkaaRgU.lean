/- What the document tells of three samples; the examples. -/
import Derived.Test.YtdndomknjefgkaaRgT
namespace Go.Proofs.Ytdndomknjefgkaa.Rg
open Go.RowKit
def m0 : Int := -9223372036854775808
def r1 : Ring := ⟨[sm 5], 1, 0, 0, 0, 0, 2, m0⟩
def r2 : Ring := ⟨[sm 3, sm 5], 2, 0, 0, 0, 0, 2, m0⟩
def r3 : Ring := ⟨[sm 4, sm 5], 3, 0, 1, 0, 0, 2, m0⟩
def r4 : Ring := ⟨[sm 5], 3, 0, 1, 0, 1, 2, 4⟩
def r5 : Ring := ⟨[sm 5], 4, 1, 1, 0, 1, 2, 4⟩
def r6 : Ring := ⟨[sm 5], 5, 1, 1, 1, 1, 2, 4⟩
theorem two_peekL {w W : World} {Q : World → Value → Prop} {g : Value → List Nat} {X : List Nat} {A : Nat} {b : Ring} (s : Two w (PB A b) Q (foot A) g X W) (t : Int) (h : b.l.headD [] = sm t) (h2 : b.l.isEmpty = false) :
    Calls Try.prog 26 #[.pointer (some ⟨A, 0, none⟩)] W fun e w' => e = .returned (.tuple #[.agg #[.int .i64 t, .int .i64 0, .int .i64 0, .int .i64 0, .int .i64 0, .int .i64 0, .int .i64 0, .int .i64 0, .int .i64 0], .bool true]) ∧ Below W.heap.size W w' := by
  have := two_peek s
  rw [h, h2] at this
  exact this
theorem Two.box {w W : World} {P Q : World → Value → Prop} {f g : Value → List Nat} {X : List Nat} (s : Two w P Q f g X W) (o : Obj) : Two w P Q f g (W.heap.size :: X) (W.alloc o) := by
  obtain ⟨v, u, h1, h2, h3, h4⟩ := s.ex
  have hp := s.kp.lt W v h1
  have hq := s.kq.lt W u h2
  have k : Below W.heap.size W (W.alloc o) := (Below.refl _ _).alloc (Nat.le_refl _) _
  refine ⟨s.kp, s.kq, ⟨v, u, s.kp.keep [] _ _ v h1 (.of [] k) (by simp), s.kq.keep [] _ _ u h2 (.of [] k) (by simp), fun q hm => ⟨(h3 q hm).1, fun hx => ?_, (h3 q hm).2.2⟩, fun q hm => ⟨(h4 q hm).1, fun hx => ?_⟩⟩, fun q hm => ?_, s.K.trans (k.mono s.K.size)⟩
  · rcases List.mem_cons.1 hx with rfl | h
    · have := hp _ hm; omega
    · exact (h3 q hm).2.1 h
  · rcases List.mem_cons.1 hx with rfl | h
    · have := hq _ hm; omega
    · exact (h4 q hm).2 h
  · rcases List.mem_cons.1 hm with rfl | h
    · simp
    · have := s.xlt q h; simp; omega
theorem total_lit (n a b c d t : Int) (n' a' b' c' d' : Nat) (h : n = n' ∧ a = a' ∧ b = b' ∧ c = c' ∧ d = d' ∧ t = (a' + b' + c' + d' : Nat)) (hs : a' + b' + c' + d' < 1000000000000) (w : World) : Calls Try.prog 29 #[.agg #[.int .i64 n, .int .i64 a, .int .i64 b, .int .i64 c, .int .i64 d]] w fun e w' => e = .returned (.int .i64 t) ∧ Below w.heap.size w w' := by
  obtain ⟨rfl, rfl, rfl, rfl, rfl, rfl⟩ := h
  exact total_any n' a' b' c' d' hs w
set_option maxRecDepth 100000 in
set_option maxHeartbeats 16000000 in
theorem awake_any (w : World) : Calls Try.prog 17 #[] w fun e w' => e = .returned (.bool true) ∧ Below w.heap.size w w' := by
  go_enter Try.func17, Try.ntmps17
  go_wp2_with fail
  refine (two_new (nothing w) 2 (by omega) (by omega)).mono ?_
  rintro e w1 ⟨rfl, s1⟩
  have s1 := Lib.hid s1
  go_wp2_with fail
  refine (two_putL s1.out 5 r1 true (by decide) (by decide) (by decide) (by decide) rfl rfl).mono ?_
  rintro e w2 ⟨rfl, s2, _⟩
  have s2 := Lib.hid s2
  go_wp2_with fail
  refine (two_putL s2.out 3 r2 true (by decide) (by decide) (by decide) (by decide) rfl rfl).mono ?_
  rintro e w3 ⟨rfl, s3, _⟩
  have s3 := Lib.hid s3
  go_wp2_with fail
  refine (two_putL s3.out 4 r3 true (by decide) (by decide) (by decide) (by decide) rfl rfl).mono ?_
  rintro e w4 ⟨rfl, s4, _⟩
  have s4 := Lib.hid s4
  go_wp2_with fail
  refine (two_peekL s4.out 4 rfl rfl).mono ?_
  rintro e w5 ⟨rfl, k5⟩
  have s5 := Lib.hid (s4.out.call k5)
  clear s1 s2 s3 s4 k5
  go_wp2_with fail
  have s6 := Lib.hid (s5.out.box (.cells #[.int .i64 4, .int .i64 0, .int .i64 0, .int .i64 0, .int .i64 0, .int .i64 0, .int .i64 0, .int .i64 0, .int .i64 0] 56))
  refine (two_pop s6.out 4 (by decide)).mono ?_
  rintro e w7 ⟨a, c, rfl, h7, hf7, s7, x7⟩
  have hl7 : r3.l.take (come 4 r3.l) = [sm 4] := rfl
  have hr7 : r3.pop 4 = r4 := rfl
  rw [hl7] at h7 hf7 s7
  rw [hr7] at s7
  obtain ⟨g7, c7, hv7, t7⟩ := row_cell h7 (i := 0) (by simp)
  have hv8 : a = some ⟨g7, 0, none⟩ ∧ c = c7 := by injection hv7 with e1 e2 e3; exact ⟨e1, e3⟩
  obtain ⟨rfl, rfl⟩ := hv8
  have f7 : w7.cell? ⟨w5.heap.size, 0, none⟩ = some (.int .i64 4) := by
    rw [cell_same (x7 _ (List.mem_cons_self ..))]; simp
  have u7 : w7.cell? ⟨g7, 0, none⟩ = some (.int .i64 4) := t7 0 (by omega)
  have s7 := Lib.hid s7
  clear h7 hf7 hv7 t7 x7 s5 s6 hl7 hr7
  go_wp2_with fail
  refine (two_putL s7.out 4 r5 false (by decide) (by decide) (by decide) (by decide) rfl rfl).mono ?_
  rintro e w8 ⟨rfl, s8, x8⟩
  have f8 := (cell_same (i := 0) (x8 w5.heap.size (by simp))).trans f7
  have u8 := (cell_same (i := 0) (x8 g7 (by simp [own]))).trans u7
  have s8 := Lib.hid s8
  clear x8 f7 u7 s7
  go_wp2_with fail
  refine (two_spoilt s8.out (by decide)).mono ?_
  rintro e w9 ⟨rfl, s9, x9⟩
  have f9 := (cell_same (i := 0) (x9 w5.heap.size (by simp))).trans f8
  have u9 := (cell_same (i := 0) (x9 g7 (by simp [own]))).trans u8
  have hc := two_cell s9
  simp only [r5, Ring.spoilt] at hc
  obtain ⟨d0, d1, d2, d3, d4⟩ := hc
  simp at d0 d1 d2 d3 d4
  have s9 := Lib.hid (show Two w (PB w.heap.size r6) NB (foot w.heap.size) none0 _ w9 from s9)
  clear x9 f8 u8 s8
  go_wp2_with (first
    | (go_at_call 29; refine (total_lit _ _ _ _ _ 4 5 1 1 1 1 ⟨rfl, rfl, rfl, rfl, rfl, rfl⟩ (by decide) _).mono ?_; rintro e w10 ⟨rfl, k10⟩; have s10 := Lib.hid (s9.out.call k10); have e0 := (cellAt k10 (World.block_lt_of_cell? w9 ⟨_, 0, none⟩ d0) (i := 0)).trans d0; have e4 := (cellAt k10 (World.block_lt_of_cell? w9 ⟨_, 0, none⟩ d0) (i := 4)).trans d4; clear k10)
    | (go_at_call 27; refine (two_len s10.out).mono ?_; rintro e w11 ⟨rfl, rfl⟩)
    | (go_at_call 28; refine (two_hor s10.out).mono ?_; rintro e w12 ⟨rfl, rfl⟩))
  go_ret
  exact ⟨rfl, s10.out.K⟩
end Go.Proofs.Ytdndomknjefgkaa.Rg
