/- Package wide: rounded; the other sign; comparing. -/
import Derived.Test.YtahedampmjfoeaaWideB
namespace Go.Proofs.Ytahedampmjfoeaa
open Go.RowKit

def halfOf (s : Nat) : Nat := if s = 0 then 0 else 2 ^ (s - 1)
def rq (n s : Nat) : Nat := (n + halfOf s) / 2 ^ s
theorem abs127 {v : Int} (h : InW v) : Le127 v.natAbs := ⟨by have := h.lo; have := h.hi; omega⟩
theorem abs128 {v : Int} (h : InW v) (s : Nat) (hs : s ≤ 126) : Lt128 (v.natAbs + halfOf s) := ⟨by
  have := (abs127 h).out
  have : halfOf s ≤ 85070591730234615865843651857942052864 := by
    unfold halfOf
    split
    · omega
    · exact pow_lt (s - 1) 126 (by omega)
  omega⟩
theorem signed_at (x : Int) (n : Nat) (b : Bool) (w : World) (hx : x = n) (hn : n < 18446744073709551616) :
    Calls Try.prog 72 #[.int .u64 x, .bool b] w fun e w' => e = .returned (.tuple #[.int .i64 (sval (withSign b n)), .bool (sok (withSign b n))]) ∧ w = w' := by
  subst hx; exact signed_any n b w hn

theorem round_out (v s : Int) (w : World) (hs : s < 0 ∨ 126 < s) :
    Calls Try.prog 27 #[Wv v, .int .i64 s] w fun e w' => e = .returned (.tuple #[.int .i64 0, .bool false]) ∧ Below w.heap.size w w' := by
  rcases hs with hs | hs
  · go_enter Try.func27, Try.ntmps27
    go_wp2_with fail
    go_ret2
    exact ⟨rfl, (Below.refl _ _).alloc (Nat.le_refl _) _⟩
  · have hs2 : ¬ s < 0 := by omega
    go_enter Try.func27, Try.ntmps27
    go_wp2_with fail
    go_ret2
    exact ⟨rfl, (Below.refl _ _).alloc (Nat.le_refl _) _⟩

/-- What the second half of Round comes to. -/
theorem round_end (q : Nat) (hq : q < 18446744073709551616) : wh q = 0 ∧ wl q = q := by unfold wh wl; omega
theorem sign_wh (v : Int) (q : Nat) : withSign (decide (wh v < 0)) q = withSign (decide (v < 0)) q := by
  rw [decide_eq_decide.2 (wh_neg v)]
set_option maxHeartbeats 2000000 in
theorem round_any (v : Int) (s : Nat) (w : World) (h : InW v) (hs : s ≤ 126) :
    Calls Try.prog 27 #[Wv v, .int .i64 s] w fun e w' => e = .returned (.tuple #[.int .i64 (sval (withSign (decide (v < 0)) (rq v.natAbs s))), .bool (sok (withSign (decide (v < 0)) (rq v.natAbs s)))]) ∧ Below w.heap.size w w' := by
  have g1 : ¬ (s : Int) < 0 := by omega
  have g2 : ¬ (126 : Int) < s := by omega
  have g3 : (0 : Int) ≤ s := by omega
  have l127 := abs127 h
  have l128 := abs128 h s hs
  have hs127 : s ≤ 127 := by omega
  go_enter Try.func27, Try.ntmps27
  go_wp2_with fail
  generalize hW : World.alloc w _ = W
  have e0 : W.heap[w.heap.size]? = some (.cells #[.int .i64 (wh v), .int .u64 (wl v)] 27 (0, 0)) := by subst hW; exact heap_alloc_new w _
  have hB : Below w.heap.size w W := by subst hW; exact (Below.refl _ _).alloc (Nat.le_refl _) _
  have hw : w.heap.size < W.heap.size := by subst hW; simp
  clear hW
  refine (wsize_any v _ h).mono ?_
  rintro e w1 ⟨rfl, hb⟩
  have e1 := (hb.block _ hw).trans e0
  have a0 : w1.cell? ⟨w.heap.size, 0, none⟩ = some (.int .i64 (wh v)) := by rw [cell_of_row w1 _ _ _ _ _ e1]; rfl
  have a1 : w1.cell? ⟨w.heap.size, 1, none⟩ = some (.int .u64 (wl v)) := by rw [cell_of_row w1 _ _ _ _ _ e1]; rfl
  have HB := hB.trans (hb.mono (Nat.le_of_lt hw))
  clear e0 e1 hb hB hw
  by_cases h0 : s = 0
  · have g4 : ¬ (0 : Int) < s := by omega
    have hrq : rq v.natAbs s = v.natAbs / 2 ^ s := by unfold rq halfOf; rw [if_pos h0]; rfl
    have HQ := Lib.hid hrq
    have hl : Lt128 v.natAbs := ⟨by have := l127.out; omega⟩
    clear hrq h0
    go_wp2_with fail
    refine (shr_any v.natAbs s _ hs127 hl).mono ?_
    rintro e w2 ⟨rfl, rfl⟩
    by_cases hq : rq v.natAbs s < 18446744073709551616
    · rw [← HQ.out]
      have HE := Lib.hid (round_end _ hq)
      have t1 : (wh (rq v.natAbs s) != 0) = false := by rw [HE.out.1]; rfl
      have HQ2 := Lib.hid hq
      clear hq
      go_wp2_with fail
      refine (signed_at _ _ _ _ HE.out.2 HQ2.out).mono ?_
      rintro e w3 ⟨rfl, rfl⟩
      rw [sign_wh]
      go_wp2_with fail
      go_ret2
      exact ⟨rfl, HB⟩
    · rw [← HQ.out]
      have t1 : (wh (rq v.natAbs s) != 0) = true := by rw [bne_iff_ne]; unfold wh; omega
      have HN := Lib.hid (sok_no (z := withSign (decide (v < 0)) (rq v.natAbs s)) (by unfold withSign; split <;> omega))
      clear hq
      go_wp2_with fail
      go_ret2
      exact ⟨tupleb HN.out.2 HN.out.1, HB⟩
  · have g4 : (0 : Int) < s := by omega
    have hs1 : 1 ≤ s := by omega
    have hho : halfOf s = 2 ^ (s - 1) := by unfold halfOf; rw [if_neg h0]
    have HH := Lib.hid hho
    clear hho h0
    go_wp2_with fail
    refine (half_any v.natAbs s _ hs1 hs l127).mono ?_
    rintro e w2 ⟨rfl, rfl⟩
    rw [← HH.out]
    go_wp2_with fail
    refine (shr_any (v.natAbs + halfOf s) s _ hs127 l128).mono ?_
    rintro e w2 ⟨rfl, rfl⟩
    by_cases hq : rq v.natAbs s < 18446744073709551616
    · have HE := Lib.hid (round_end _ hq)
      have t1 : (wh (rq v.natAbs s) != 0) = false := by rw [HE.out.1]; rfl
      have HQ2 := Lib.hid hq
      clear hq
      show _
      rw [show (v.natAbs + halfOf s) / 2 ^ s = rq v.natAbs s from rfl]
      go_wp2_with fail
      refine (signed_at _ _ _ _ HE.out.2 HQ2.out).mono ?_
      rintro e w3 ⟨rfl, rfl⟩
      rw [sign_wh]
      go_wp2_with fail
      go_ret2
      exact ⟨rfl, HB⟩
    · rw [show (v.natAbs + halfOf s) / 2 ^ s = rq v.natAbs s from rfl]
      have t1 : (wh (rq v.natAbs s) != 0) = true := by rw [bne_iff_ne]; unfold wh; omega
      have HN := Lib.hid (sok_no (z := withSign (decide (v < 0)) (rq v.natAbs s)) (by unfold withSign; split <;> omega))
      clear hq
      go_wp2_with fail
      go_ret2
      exact ⟨tupleb HN.out.2 HN.out.1, HB⟩
end Go.Proofs.Ytahedampmjfoeaa
