/- A law's memory: a flag and two samplers; what the document tells of two samples; the examples. -/
import Derived.Test.YtdndomknjefgkaaDnK
namespace Go.Proofs.Ytdndomknjefgkaa.Rg
open Go.RowKit
/-- What is pending stays small. -/
def Bd (k : Int) (F : Nat → Int) : Prop := ∀ j, 1 ≤ j → j < 8 → -(k * 34359738368) ≤ F (2 + j) ∧ F (2 + j) ≤ k * 34359738368
theorem Bd.mod {k : Int} {F : Nat → Int} (h : Bd k F) (hk : k ≤ 8192) : Mod 1 (pend F) := fun j h1 h2 => by
  have := h j h1 h2
  unfold pend
  omega
theorem Bd.new (a : Int) : Bd 0 (newS a) := fun j h1 _ => by
  unfold newS
  rw [if_neg (by omega), if_neg (by omega)]
  omega
theorem Bd.next {k : Int} {F i : Nat → Int} (h : Bd k F) (hk : 0 ≤ k) : Bd (k + 1) (nextF F i) := fun j h1 h2 => by
  have h0 := h j h1 h2
  unfold nextF
  by_cases ht : took F i = true
  · rw [if_pos ht, if_neg (by omega), if_neg (by omega)]
    by_cases hd : told F i = true
    · rw [if_pos hd]; omega
    · rw [if_neg hd]
      have ho : okI i = true := by unfold took at ht; rw [Bool.and_eq_true] at ht; exact ht.1
      obtain ⟨a, _, b⟩ := okI_bd ho
      have hi : -34359738368 ≤ i j ∧ i j ≤ 34359738368 := by
        by_cases e : j = 1
        · subst e; omega
        · exact b j (by omega) h2
      unfold whole addI pend
      rw [Nat.add_sub_cancel_left, if_neg (by omega)]
      omega
  · rw [if_neg ht]; omega
/-- A flag at p, samplers at A and B, made since w. -/
structure M3 (w : World) (p A B : Nat) (F G : Nat → Int) (tA tB : TypeId) (W : World) : Prop where
  f : Fl p 0 false W
  a : Blk W A (rowA 10 F) tA
  b : Blk W B (rowA 10 G) tB
  K : Below w.heap.size w W
  d : A ≠ p ∧ B ≠ p ∧ (A ≠ B ∨ (A = B ∧ F = G ∧ tA = tB)) ∧ w.heap.size ≤ p ∧ w.heap.size ≤ A ∧ w.heap.size ≤ B
section
variable {w W : World} {p A B : Nat} {F G : Nat → Int} {tA tB : TypeId}
theorem M3.call {W2 : World} (m : M3 w p A B F G tA tB W) (k : Below W.heap.size W W2) : M3 w p A B F G tA tB W2 := ⟨m.f.below k, m.a.call k, m.b.call k, m.K.trans (k.mono m.K.size), m.d⟩
theorem M3.drew (m : M3 w p A B F G tA tB W) : M3 w p A B F G tA tB W.drew := m.call (Below.refl _ _).drew
theorem M3.alloc (m : M3 w p A B F G tA tB W) (o : Obj) : M3 w p A B F G tA tB (W.alloc o) := m.call ((Below.refl _ _).alloc (Nat.le_refl _) _)
theorem M3.swap (m : M3 w p A B F G tA tB W) : M3 w p B A G F tB tA W := ⟨m.f, m.b, m.a, m.K, m.d.2.1, m.d.1, m.d.2.2.1.elim (fun h => .inl (Ne.symm h)) (fun h => .inr ⟨h.1.symm, h.2.1.symm, h.2.2.symm⟩), m.d.2.2.2.1, m.d.2.2.2.2.2, m.d.2.2.2.2.1⟩
theorem M3.put {k : Int} (m : M3 w p A B F G 77 tB W) (hAB : A ≠ B) (hb : Bd k F) (hk : k ≤ 8192) (i : Nat → Int) (r : Array Value) (hr : r = rowA 8 i) (R : Array Value) (b : Bool) (e0 : Int) (hR : rowA 8 (toldR F i) = R) (h1 : told F i = b) (h2 : errI F i = e0) :
    Calls Try.prog 10 #[.pointer (some ⟨A, 0, none⟩), .pointer (some ⟨p, 0, none⟩), .agg r] W fun e w' => e = .returned (.tuple #[.agg R, .bool b, .int .i64 e0]) ∧ M3 w p A B (nextF F i) G 77 tB w' ∧ Tch [p, A] W w' := by
  subst hr hR h1 h2
  refine (dput_any p 0 A F i false W m.f m.a m.d.1 (hb.mod hk)).mono ?_
  rintro e w' ⟨rfl, hf, hA, ht⟩
  refine ⟨rfl, ⟨hf, hA, ht.blk m.b (by simp; exact ⟨m.d.2.1, Ne.symm hAB⟩), m.K.trans (ht.below m.K.size (by have := m.d; simp; omega)), m.d.1, m.d.2.1, .inl hAB, m.d.2.2.2⟩, ht⟩
theorem M3.rput {k : Int} (m : M3 w p A B F G 45 tB W) (hAB : A ≠ B) (hb : Bd k F) (hk : k ≤ 8192) (i : Nat → Int) (r : Array Value) (hr : r = rowA 8 i) :
    Calls Try.prog 15 #[.pointer (some ⟨A, 0, none⟩), .agg r] W fun e w' => e = .returned (.tuple #[.agg (rowA 8 (toldR F i)), .bool (told F i), .int .i64 (errI F i)]) ∧ M3 w p A B (nextF F i) G 45 tB w' ∧ Tch [A] W w' := by
  subst hr
  refine (drput_any A F i W m.a (hb.mod hk)).mono ?_
  rintro e w' ⟨rfl, hA, ht⟩
  have hp : p ∉ [A] := by simp; exact Ne.symm m.d.1
  refine ⟨rfl, ⟨⟨by rw [ht.cell m.f.lt hp]; exact m.f.cell, by rw [frozen_same (ht.block p m.f.lt hp)]; exact m.f.free, Nat.lt_of_lt_of_le m.f.lt ht.size⟩, hA, ht.blk m.b (by simp; exact Ne.symm hAB), m.K.trans (ht.below m.K.size (by have := m.d; simp; omega)), m.d.1, m.d.2.1, .inl hAB, m.d.2.2.2⟩, ht⟩
theorem M3.pending (m : M3 w p A B F G 77 tB W) (x : Int) (hx : F 3 = x) : Calls Try.prog 13 #[.pointer (some ⟨A, 0, none⟩)] W fun e w' => e = .returned (.int .i64 x) ∧ w' = W := by
  subst hx; exact pending_any A F W m.a
theorem M3.flag {W2 : World} (m : M3 w p A B F G tA tB W) (k : FlW p 0 false W W2) : M3 w p A B F G tA tB W2 := ⟨k.fl m.f, m.a.flag m.d.1 k, m.b.flag m.d.2.1 k, m.K.trans (k.below m.K.size m.d.2.2.2.1), m.d⟩
end
/-- One sampler alone. -/
abbrev M2 (w : World) (p A : Nat) (F : Nat → Int) (W : World) : Prop := M3 w p A A F F 77 77 W
theorem m2_put {w W : World} {p A : Nat} {F : Nat → Int} {k : Int} (m : M2 w p A F W) (hb : Bd k F) (hk : k ≤ 8192) (i : Nat → Int) (r : Array Value) (hr : r = rowA 8 i) (R : Array Value) (b : Bool) (e0 : Int) (hR : rowA 8 (toldR F i) = R) (h1 : told F i = b) (h2 : errI F i = e0) :
    Calls Try.prog 10 #[.pointer (some ⟨A, 0, none⟩), .pointer (some ⟨p, 0, none⟩), .agg r] W fun e w' => e = .returned (.tuple #[.agg R, .bool b, .int .i64 e0]) ∧ M2 w p A (nextF F i) w' ∧ Tch [p, A] W w' := by
  subst hr hR h1 h2
  refine (dput_any p 0 A F i false W m.f m.a m.d.1 (hb.mod hk)).mono ?_
  rintro e w' ⟨rfl, hf, hA, ht⟩
  exact ⟨rfl, ⟨hf, hA, hA, m.K.trans (ht.below m.K.size (by have := m.d; simp; omega)), m.d.1, m.d.1, .inr ⟨rfl, rfl, rfl⟩, m.d.2.2.2⟩, ht⟩
theorem m2_new {w w1 : World} {a : Int} (hb : Blk w1 w.heap.size (rowA 10 (newS a)) 77) (k : Below w.heap.size w w1) : M2 w w1.heap.size w.heap.size (newS a) (w1.alloc (.cells #[.bool false] 29)) :=
  ⟨Fl.made _ _ _, hb.alloc _, hb.alloc _, k.alloc (k.size) _, Nat.ne_of_lt hb.lt, Nat.ne_of_lt hb.lt, .inr ⟨rfl, rfl, rfl⟩, k.size, Nat.le_refl _, Nat.le_refl _⟩
theorem join_two {w W : World} {p A c : Nat} {F : Nat → Int} (m : M2 w p A F W) (B : Nat) (x y : Sam) (r : Array Value) (hB : Blk W B r 32) (hr : r = rowA 16 fun q => flk 8 [x, y] q) (hx : x.length = 8 ∧ y.length = 8) (hp : B ≠ p) (R : Array Value) (e0 : Int) (hR : rowA 8 (joinR [x, y]) = R) (h2 : joinE [x, y] = e0) :
    Calls Try.prog 11 #[.pointer (some ⟨p, 0, none⟩), .slice (some ⟨B, 0, none⟩) 2 c] W fun e w' => e = .returned (.tuple #[.agg R, .int .i64 e0]) ∧ M2 w p A F w' ∧ FlW p 0 false W w' := by
  subst hr hR h2
  refine (join_any p 0 _ 2 c [x, y] false W m.f ⟨rfl, by simp [hx], by omega, .inr ⟨B, 0, rfl, hB.lt, ⟨fun q hq => by rw [Nat.zero_add, hB.cell, rowA_get _ (by omega)]⟩⟩⟩ (fun g o' e => by injection e with e; injection e with e _ _; exact e ▸ hp) (by omega)).mono ?_
  rintro e w' ⟨rfl, k⟩
  exact ⟨rfl, m.flag k, k⟩
theorem good_lit (r : Array Value) (f : Nat → Int) (hr : r = rowA 8 f) (b : Bool) (hb : okI f = b) (w : World) : Calls Try.prog 12 #[.agg r] w fun e w' => e = .returned (.bool b) ∧ Below w.heap.size w w' := by
  subst hr; exact goodr f b w hb
set_option maxRecDepth 100000 in
set_option maxHeartbeats 16000000 in
theorem dawake_any (w : World) : Calls Try.prog 8 #[] w fun e w' => e = .returned (.bool true) ∧ Below w.heap.size w w' := by
  go_enter Try.func8, Try.ntmps8
  go_wp2_with fail
  refine (dnew_any 8000 w (by omega) (by omega)).mono ?_
  rintro e w1 ⟨rfl, hb, k1⟩
  have m1 := Lib.hid (m2_new hb k1)
  clear hb k1
  go_wp2_with fail
  generalize w1.heap.size = p at *
  generalize hsz : w.heap.size = A at *
  generalize w1.alloc _ = X1 at *
  refine (m2_put m1.out (Bd.new _) (by omega) (fn [4000, 4000, 0, 0, 0, 1, 0, 0]) _ (by kernel_rfl) #[.int .i64 0, .int .i64 0, .int .i64 0, .int .i64 0, .int .i64 0, .int .i64 0, .int .i64 0, .int .i64 0] false 0 (by kernel_rfl) (by kernel_rfl) (by kernel_rfl)).mono ?_
  rintro e w2 ⟨rfl, m2, _⟩
  have B2 := (Bd.new 8000).next (i := fn [4000, 4000, 0, 0, 0, 1, 0, 0]) (by omega)
  have hp3 : nextF (newS 8000) (fn [4000, 4000, 0, 0, 0, 1, 0, 0]) 3 = 4000 := by kernel_rfl
  have m2 := Lib.hid m2
  have B2 := Lib.hid B2
  have P3 := Lib.hid hp3
  clear m1 hp3
  go_wp2_with fail
  refine ((m2.out.alloc _).pending 4000 P3.out).mono ?_
  rintro e w3 ⟨rfl, rfl⟩
  go_wp2_with fail
  have m3 := Lib.hid (m2.out.alloc (.cells #[.int .i64 0, .int .i64 0, .int .i64 0, .int .i64 0, .int .i64 0, .int .i64 0, .int .i64 0, .int .i64 0] 32))
  clear m2
  generalize World.alloc w2 _ = X2 at *
  generalize w2.heap.size = q4 at *
  refine (m2_put m3.out B2.out (by omega) (fn [8000, 4000, 0, 0, 0, 2, 0, 0]) _ (by kernel_rfl) #[.int .i64 8000, .int .i64 8000, .int .i64 0, .int .i64 0, .int .i64 0, .int .i64 3, .int .i64 0, .int .i64 0] true 0 (by kernel_rfl) (by kernel_rfl) (by kernel_rfl)).mono ?_
  rintro e w4 ⟨rfl, m4, _⟩
  have m4 := Lib.hid m4
  clear m3
  go_wp2_with fail
  have m5 := Lib.hid ((m4.out.alloc (.cells #[.int .i64 8000, .int .i64 8000, .int .i64 0, .int .i64 0, .int .i64 0, .int .i64 3, .int .i64 0, .int .i64 0] 32)).alloc (.cells #[.int .i64 1, .int .i64 1, .int .i64 0, .int .i64 0, .int .i64 0, .int .i64 0, .int .i64 0, .int .i64 0, .int .i64 2, .int .i64 1, .int .i64 0, .int .i64 0, .int .i64 0, .int .i64 0, .int .i64 0, .int .i64 0] 32))
  have b8 : Blk (World.alloc (World.alloc w4 (.cells #[.int .i64 8000, .int .i64 8000, .int .i64 0, .int .i64 0, .int .i64 0, .int .i64 3, .int .i64 0, .int .i64 0] 32)) (.cells #[.int .i64 1, .int .i64 1, .int .i64 0, .int .i64 0, .int .i64 0, .int .i64 0, .int .i64 0, .int .i64 0, .int .i64 2, .int .i64 1, .int .i64 0, .int .i64 0, .int .i64 0, .int .i64 0, .int .i64 0, .int .i64 0] 32)) w4.heap.size #[.int .i64 8000, .int .i64 8000, .int .i64 0, .int .i64 0, .int .i64 0, .int .i64 3, .int .i64 0, .int .i64 0] 32 := (Blk.made _ _ _ rfl).alloc _
  have bS : Blk (World.alloc (World.alloc w4 (.cells #[.int .i64 8000, .int .i64 8000, .int .i64 0, .int .i64 0, .int .i64 0, .int .i64 3, .int .i64 0, .int .i64 0] 32)) (.cells #[.int .i64 1, .int .i64 1, .int .i64 0, .int .i64 0, .int .i64 0, .int .i64 0, .int .i64 0, .int .i64 0, .int .i64 2, .int .i64 1, .int .i64 0, .int .i64 0, .int .i64 0, .int .i64 0, .int .i64 0, .int .i64 0] 32)) (w4.heap.size + 1) #[.int .i64 1, .int .i64 1, .int .i64 0, .int .i64 0, .int .i64 0, .int .i64 0, .int .i64 0, .int .i64 0, .int .i64 2, .int .i64 1, .int .i64 0, .int .i64 0, .int .i64 0, .int .i64 0, .int .i64 0, .int .i64 0] 32 := Blk.made _ _ _ (by simp)
  have hp4 := m4.out.f.lt
  clear m4
  generalize World.alloc (World.alloc w4 _) _ = X5 at *
  generalize w4.heap.size = q8 at *
  refine (join_two m5.out (q8 + 1) [1, 1, 0, 0, 0, 0, 0, 0] [2, 1, 0, 0, 0, 0, 0, 0] _ bS (by kernel_rfl) ⟨rfl, rfl⟩ (by omega) #[.int .i64 2, .int .i64 2, .int .i64 0, .int .i64 0, .int .i64 0, .int .i64 0, .int .i64 0, .int .i64 0] 0 (by kernel_rfl) (by kernel_rfl)).mono ?_
  rintro e w6 ⟨rfl, m6, k6⟩
  have b6 := b8.flag (by omega) k6
  have c0 : w6.cell? ⟨q8, 0, none⟩ = some (.int .i64 8000) := b6.cell 0
  have c1 : w6.cell? ⟨q8, 1, none⟩ = some (.int .i64 8000) := b6.cell 1
  have c5 : w6.cell? ⟨q8, 5, none⟩ = some (.int .i64 3) := b6.cell 5
  have cf : w6.cell? ⟨p, 0, none⟩ = some (.bool false) := m6.f.cell
  have l8 := b6.lt
  have lp := m6.f.lt
  have m6 := Lib.hid m6
  clear m5 b8 bS k6 b6
  go_wp2_with fail
  have hG := fun W => good_lit #[.int .i64 0, .int .i64 1, .int .i64 0, .int .i64 0, .int .i64 0, .int .i64 0, .int .i64 0, .int .i64 0] (fn [0, 1, 0, 0, 0, 0, 0, 0]) (by kernel_rfl) true (by kernel_rfl) W
  refine (hG _).mono ?_
  rintro e w7 ⟨rfl, k7⟩
  have m7 := Lib.hid ((m6.out.alloc (.cells #[.int .i64 2, .int .i64 2, .int .i64 0, .int .i64 0, .int .i64 0, .int .i64 0, .int .i64 0, .int .i64 0] 32)).call k7)
  have cf7 : w7.cell? ⟨p, 0, none⟩ = some (.bool false) := m7.out.f.cell
  clear hG k7 m6
  go_wp2_with fail
  go_ret
  exact ⟨rfl, by first | exact m7.out.K | (rw [← hsz]; exact m7.out.K)⟩
end Go.Proofs.Ytdndomknjefgkaa.Rg
