/- Package wide: sums, signs, comparisons, products, rounding. -/
import Derived.Test.YtdleeeahonfnkaaPA

/- WideA -/
namespace Go.Proofs.Ytdleeeahonfnkaa
open Go.RowKit

theorem wof_any (a : Int) (w : World) (h1 : -9223372036854775808 ≤ a) (h2 : a ≤ 9223372036854775807) :
    Calls Try.prog 79 #[.int .i64 a] w fun e w' => e = .returned (Wv a) ∧ Below w.heap.size w w' := by
  go_enter Try.func79, Try.ntmps79
  go_wp2
  refine bodyPost_ret (v := Value.agg #[.int .i64 (a / 9223372036854775808), .int .u64 (IntKind.u64.wrap a)]) (by simp [results, Try.results79, go_sem]) rfl ⟨ret_val (agg2 ?_ ?_), (Below.refl _ _).alloc (Nat.le_refl _) _⟩
  · unfold wh; omega
  · unfold wl; exact IntKind.wrap_u64 a

theorem negate_any (v : Int) (w : World) (h : InW v) :
    Calls Try.prog 137 #[Wv v] w fun e w' => e = .returned (Wv (nneg v)) ∧ Below w.heap.size w w' := by
  have l1 := wh_lo h
  have l2 := wh_hi h
  have l3 := wl_lo v
  have l4 := wl_hi v
  have hs := fun w => sub64_run (wl v) w l3 l4
  go_enter Try.func137, Try.ntmps137
  go_wp2
  refine bodyPost_ret (v := Value.agg #[.int .i64 (wrap64 (wrap64 (-wh v) - wrap64 (subBo (wl v)))), .int .u64 (subLo (wl v))]) (by simp [results, Try.results137, go_sem]) rfl ⟨ret_val (agg2 (neg_hi h) (neg_lo v)), ((Below.refl _ _).alloc (Nat.le_refl _) _).alloc (by simp) _⟩

set_option maxHeartbeats 1000000 in
theorem wsize_any (v : Int) (w : World) (h : InW v) :
    Calls Try.prog 86 #[Wv v] w fun e w' => e = .returned (.tuple #[.int .u64 (wh v.natAbs), .int .u64 (wl v.natAbs)]) ∧ Below w.heap.size w w' := by
  by_cases hn : v < 0
  · have hn' : wh v < 0 := (wh_neg v).2 hn
    have HS := Lib.hid (size_neg h hn)
    clear hn
    go_enter Try.func86, Try.ntmps86
    go_wp2_with fail
    generalize hW : World.alloc w _ = W
    have e0 : W.heap[w.heap.size]? = some (.cells #[.int .i64 (wh v), .int .u64 (wl v)] 24 (0, 0)) := by subst hW; exact heap_alloc_new w _
    have hB : Below w.heap.size w W := by subst hW; exact (Below.refl _ _).alloc (Nat.le_refl _) _
    have hs : w.heap.size < W.heap.size := by subst hW; simp
    clear hW
    refine (negate_any v _ h).mono ?_
    rintro e w1 ⟨rfl, hb⟩
    have e1 := (hb.block _ hs).trans e0
    have a0 : w1.cell? ⟨w.heap.size, 0, none⟩ = some (.int .i64 (wh v)) := by rw [cell_of_row w1 _ _ _ _ _ e1]; rfl
    have a1 : w1.cell? ⟨w.heap.size, 1, none⟩ = some (.int .u64 (wl v)) := by rw [cell_of_row w1 _ _ _ _ _ e1]; rfl
    have g : ∀ o, w1.frozen? ⟨w.heap.size, o, none⟩ = false := fun o => by simp [World.frozen?, e1]
    have HB := hB.trans (hb.mono (Nat.le_of_lt hs))
    clear e0 e1 hb hB hs
    go_wp2
    go_quiet (fail)
    go_wp2
    go_ret2
    exact ⟨tuple2 HS.out.1 HS.out.2, below_drewN ((HB.setCell (Nat.le_refl _) _).setCell (Nat.le_refl _) _) _⟩
  · have hn' : ¬ wh v < 0 := fun x => hn ((wh_neg v).1 x)
    have HS := Lib.hid (size_pos h hn)
    clear hn
    go_enter Try.func86, Try.ntmps86
    go_wp2
    go_quiet (fail)
    go_wp2
    go_ret2
    exact ⟨tuple2 HS.out.1 HS.out.2, below_drewN ((Below.refl _ _).alloc (Nat.le_refl _) _) _⟩

set_option maxHeartbeats 1000000 in
theorem signed_any (n : Nat) (b : Bool) (w : World) (hn : n < 18446744073709551616) :
    Calls Try.prog 89 #[.int .u64 n, .bool b] w fun e w' => e = .returned (.tuple #[.int .i64 (sval (withSign b n)), .bool (sok (withSign b n))]) ∧ w = w' := by
  cases b
  · by_cases h1 : n ≤ 9223372036854775807
    · have h2 : (n : Int) ≤ 9223372036854775807 := by omega
      have HS := Lib.hid (sok_yes (z := withSign false n) (by unfold withSign; simp <;> omega) (by unfold withSign; simp <;> omega))
      go_enter Try.func89, Try.ntmps89
      go_wp2
      go_ret2
      exact ⟨tupleb ((by unfold withSign; simp : (n : Int) = withSign false n).trans HS.out.2) HS.out.1, rfl⟩
    · have h2 : ¬ (n : Int) ≤ 9223372036854775807 := by omega
      have HS := Lib.hid (sok_no (z := withSign false n) (.inr (by unfold withSign; simp <;> omega)))
      go_enter Try.func89, Try.ntmps89
      go_wp2
      go_ret2
      exact ⟨tupleb HS.out.2 HS.out.1, rfl⟩
  · by_cases h1 : n ≤ 9223372036854775808
    · have h2 : (n : Int) ≤ 9223372036854775808 := by omega
      have HS := Lib.hid (sok_yes (z := withSign true n) (by unfold withSign; simp <;> omega) (by unfold withSign; simp <;> omega))
      go_enter Try.func89, Try.ntmps89
      go_wp2
      go_ret2
      refine ⟨tupleb (Eq.trans ?_ HS.out.2) HS.out.1, rfl⟩
      unfold withSign wrap64
      simp
      omega
    · have h2 : ¬ (n : Int) ≤ 9223372036854775808 := by omega
      have HS := Lib.hid (sok_no (z := withSign true n) (.inl (by unfold withSign; simp <;> omega)))
      go_enter Try.func89, Try.ntmps89
      go_wp2
      go_ret2
      exact ⟨tupleb HS.out.2 HS.out.1, rfl⟩
end Go.Proofs.Ytdleeeahonfnkaa

/- WideB -/
namespace Go.Proofs.Ytdleeeahonfnkaa
open Go.RowKit

structure Le127 (n : Nat) : Prop where
  out : n ≤ 170141183460469231731687303715884105728
structure Lt128 (n : Nat) : Prop where
  out : n < 340282366920938463463374607431768211456
theorem wrap_lo (x : Int) : 0 ≤ IntKind.u64.wrap x := by rw [IntKind.wrap_u64]; omega
theorem half_hi (h l : Int) (s : Nat) (w : World) (h1 : 65 ≤ s) (h2 : s ≤ 126) :
    Calls Try.prog 87 #[.int .u64 h, .int .u64 l, .int .u64 s] w fun e w' => e = .returned (.tuple #[.int .u64 (IntKind.u64.wrap (h + IntKind.u64.wrap (2 ^ (s - 65)))), .int .u64 l]) ∧ w = w' := by
  have h3 : (64 : Int) < s := by omega
  go_enter Try.func87, Try.ntmps87
  go_wp2
  go_ret2
  exact ⟨rfl, rfl⟩
theorem half_lo (h l : Int) (s : Nat) (w : World) (h1 : 1 ≤ s) (h2 : s ≤ 64) (l3 : 0 ≤ l) :
    Calls Try.prog 87 #[.int .u64 h, .int .u64 l, .int .u64 s] w fun e w' => e = .returned (.tuple #[.int .u64 (IntKind.u64.wrap (h + addHi l (IntKind.u64.wrap (2 ^ (s - 1))))), .int .u64 (addLo l (IntKind.u64.wrap (2 ^ (s - 1))))]) ∧ w = w' := by
  have h3 : ¬ (64 : Int) < s := by omega
  have hx := fun w => add64_run l (IntKind.u64.wrap (2 ^ (s - 1))) w l3 (wrap_lo _)
  go_enter Try.func87, Try.ntmps87
  go_wp2
  go_ret2
  exact ⟨rfl, rfl⟩
theorem pow_int (k : Nat) : ((2 : Int) ^ k) = ((2 ^ k : Nat) : Int) := by simp
theorem pow_lt (k m : Nat) (h : k ≤ m) : 2 ^ k ≤ 2 ^ m := Nat.pow_le_pow_right (by omega) h
theorem half_any (n s : Nat) (w : World) (h1 : 1 ≤ s) (h2 : s ≤ 126) (hn : Le127 n) :
    Calls Try.prog 87 #[.int .u64 (wh n), .int .u64 (wl n), .int .u64 s] w fun e w' => e = .returned (.tuple #[.int .u64 (wh (n + 2 ^ (s - 1) : Nat)), .int .u64 (wl (n + 2 ^ (s - 1) : Nat))]) ∧ w = w' := by
  have hn' := hn.out
  have l3 := wl_lo n
  have l4 := wl_hi n
  have l5 : 0 ≤ wh n := by unfold wh; omega
  have l6 : wh n ≤ 9223372036854775808 := by unfold wh; omega
  by_cases hs : 65 ≤ s
  · refine (half_hi _ _ s w hs h2).mono fun e w' ⟨he, hw⟩ => ⟨he.trans (tuple2 ?_ ?_), hw⟩
    · have hp := pow_lt (s - 65) 61 (by omega)
      have e1 : 2 ^ (s - 1) = 2 ^ (s - 65) * 18446744073709551616 := by rw [show s - 1 = (s - 65) + 64 by omega, Nat.pow_add]
      rw [e1, pow_int]
      generalize 2 ^ (s - 65) = q at *
      simp only [IntKind.wrap_u64]
      unfold wh
      omega
    · have e1 : 2 ^ (s - 1) = 2 ^ (s - 65) * 18446744073709551616 := by rw [show s - 1 = (s - 65) + 64 by omega, Nat.pow_add]
      rw [e1]
      generalize 2 ^ (s - 65) = q at *
      unfold wl
      omega
  · refine (half_lo _ _ s w h1 (by omega) l3).mono fun e w' ⟨he, hw⟩ => ⟨he.trans (tuple2 ?_ ?_), hw⟩
    · have hp := pow_lt (s - 1) 63 (by omega)
      rw [pow_int]
      generalize 2 ^ (s - 1) = q at *
      simp only [IntKind.wrap_u64]
      unfold addHi wh wl
      omega
    · have hp := pow_lt (s - 1) 63 (by omega)
      rw [pow_int]
      generalize 2 ^ (s - 1) = q at *
      simp only [IntKind.wrap_u64]
      unfold addLo wl
      omega

theorem shr_hi (h l : Int) (s : Nat) (w : World) (h1 : 64 ≤ s) (h2 : s ≤ 127) :
    Calls Try.prog 88 #[.int .u64 h, .int .u64 l, .int .u64 s] w fun e w' => e = .returned (.tuple #[.int .u64 0, .int .u64 (h / 2 ^ (s - 64))]) ∧ w = w' := by
  have h3 : (64 : Int) ≤ s := by omega
  go_enter Try.func88, Try.ntmps88
  go_wp2
  go_ret2
  exact ⟨rfl, rfl⟩
theorem shr_lo (h l : Int) (s : Nat) (w : World) (h2 : s < 64) :
    Calls Try.prog 88 #[.int .u64 h, .int .u64 l, .int .u64 s] w fun e w' => e = .returned (.tuple #[.int .u64 (h / 2 ^ s), .int .u64 (bits .or .u64 (IntKind.u64.wrap (h * 2 ^ (64 - s))) (l / 2 ^ s))]) ∧ w = w' := by
  have h3 : ¬ (64 : Int) ≤ s := by omega
  go_enter Try.func88, Try.ntmps88
  go_wp2
  go_ret2
  exact ⟨rfl, rfl⟩
theorem or_parts (a b k : Nat) (ha : a < 18446744073709551616) (hb : b < 2 ^ k) (hk : k ≤ 64) (hd : a % 2 ^ k = 0) : bits .or .u64 (a : Int) (b : Int) = ((a + b : Nat) : Int) := by
  have hb2 : b < 18446744073709551616 := Nat.lt_of_lt_of_le hb (pow_lt k 64 hk)
  rw [bits_or_u64_nat a b ha hb2, nat_join k a b hd hb]
theorem div_pow_int (a k : Nat) : ((a : Int) / 2 ^ k) = ((a / 2 ^ k : Nat) : Int) := by simp
theorem whN (n : Nat) : wh n = ((n / 18446744073709551616 : Nat) : Int) := by unfold wh; omega
theorem wlN (n : Nat) : wl n = ((n % 18446744073709551616 : Nat) : Int) := by unfold wl; omega
theorem shr_any (n s : Nat) (w : World) (h2 : s ≤ 127) (hn : Lt128 n) :
    Calls Try.prog 88 #[.int .u64 (wh n), .int .u64 (wl n), .int .u64 s] w fun e w' => e = .returned (.tuple #[.int .u64 (wh (n / 2 ^ s : Nat)), .int .u64 (wl (n / 2 ^ s : Nat))]) ∧ w = w' := by
  have hn' := hn.out
  have hq : n / 18446744073709551616 < 18446744073709551616 := by omega
  by_cases hs : 64 ≤ s
  · have e1 : n / 2 ^ s = n / 18446744073709551616 / 2 ^ (s - 64) := by
      rw [Nat.div_div_eq_div_mul, show (18446744073709551616 : Nat) = 2 ^ 64 by decide, ← Nat.pow_add, show 64 + (s - 64) = s by omega]
    have hlt : n / 18446744073709551616 / 2 ^ (s - 64) < 18446744073709551616 := Nat.lt_of_le_of_lt (Nat.div_le_self _ _) hq
    refine (shr_hi _ _ s w hs h2).mono fun e w' ⟨he, hw⟩ => ⟨he.trans (tuple2 ?_ ?_), hw⟩
    · rw [e1, whN, Nat.div_eq_of_lt hlt]; rfl
    · rw [e1, wlN, whN, Nat.mod_eq_of_lt hlt, div_pow_int]
  · refine (shr_lo _ _ s w (by omega)).mono fun e w' ⟨he, hw⟩ => ⟨he.trans (tuple2 ?_ ?_), hw⟩
    · rw [whN, whN, div_pow_int, Nat.div_div_eq_div_mul, Nat.div_div_eq_div_mul, Nat.mul_comm]
    · have hP : 0 < 2 ^ s := Nat.two_pow_pos s
      have hPQ : 2 ^ s * 2 ^ (64 - s) = 18446744073709551616 := by rw [← Nat.pow_add, show s + (64 - s) = 64 by omega]
      have eh : IntKind.u64.wrap (wh n * 2 ^ (64 - s)) = ((n / 18446744073709551616 * 2 ^ (64 - s) % 18446744073709551616 : Nat) : Int) := by
        rw [IntKind.wrap_u64, whN, pow_int, ← Int.natCast_mul]; omega
      rw [eh, wlN, wlN, div_pow_int, or_parts _ _ (64 - s) (Nat.mod_lt _ (by omega)) ?_ (by omega) ?_]
      · congr 1
        have e2 : n = n % 18446744073709551616 + 2 ^ s * (2 ^ (64 - s) * (n / 18446744073709551616)) := by rw [← Nat.mul_assoc, hPQ]; omega
        have e3 : n / 2 ^ s = n % 18446744073709551616 / 2 ^ s + 2 ^ (64 - s) * (n / 18446744073709551616) := by
          rw [show n / 2 ^ s = (n % 18446744073709551616 + 2 ^ s * (2 ^ (64 - s) * (n / 18446744073709551616))) / 2 ^ s by rw [← e2], Nat.add_mul_div_left _ _ hP]
        have hlo : n % 18446744073709551616 / 2 ^ s < 2 ^ (64 - s) := by
          refine (Nat.div_lt_iff_lt_mul hP).2 ?_
          rw [Nat.mul_comm, hPQ]; omega
        have hd : (n / 18446744073709551616 * 2 ^ (64 - s) % 18446744073709551616) % 2 ^ (64 - s) = 0 := by
          rw [Nat.mod_mod_of_dvd _ ⟨2 ^ s, by rw [Nat.mul_comm, hPQ]⟩]; exact Nat.mul_mod_left _ _
        rw [e3, Nat.mul_comm (2 ^ (64 - s))]
        generalize n / 18446744073709551616 * 2 ^ (64 - s) = X at *
        generalize n % 18446744073709551616 / 2 ^ s = Y at *
        have hm : X % 18446744073709551616 + Y < 18446744073709551616 := by
          have d1 : X % 18446744073709551616 ≤ 18446744073709551616 - 2 ^ (64 - s) := by
            have h3 := Nat.mod_lt X (show 0 < 18446744073709551616 by omega)
            obtain ⟨c, hc⟩ := Nat.dvd_of_mod_eq_zero hd
            rw [hc] at h3 ⊢
            have h4 : 2 ^ (64 - s) * c < 2 ^ (64 - s) * 2 ^ s := by rw [Nat.mul_comm _ (2 ^ s), hPQ]; exact h3
            have h5 : c < 2 ^ s := Nat.lt_of_mul_lt_mul_left h4
            have h6 : 2 ^ (64 - s) * (c + 1) ≤ 2 ^ (64 - s) * 2 ^ s := Nat.mul_le_mul_left _ h5
            rw [Nat.mul_comm _ (2 ^ s), hPQ, Nat.mul_add] at h6
            omega
          have : 2 ^ (64 - s) ≤ 18446744073709551616 := pow_lt (64 - s) 64 (by omega)
          omega
        omega
      · refine (Nat.div_lt_iff_lt_mul hP).2 ?_
        rw [Nat.mul_comm, hPQ]; omega
      · rw [Nat.mod_mod_of_dvd _ ⟨2 ^ s, by rw [Nat.mul_comm, hPQ]⟩]; exact Nat.mul_mod_left _ _
end Go.Proofs.Ytdleeeahonfnkaa

/- WideC -/
namespace Go.Proofs.Ytdleeeahonfnkaa
open Go.RowKit

def halfOf (s : Nat) : Nat := if s = 0 then 0 else 2 ^ (s - 1)
def rq (n s : Nat) : Nat := (n + halfOf s) / 2 ^ s
theorem abs127 {v : Int} (h : InW v) : Le127 v.natAbs := ⟨by have := h.lo; have := h.hi; omega⟩
theorem abs128 {v : Int} (h : InW v) (s : Nat) (hs : s ≤ 126) : Lt128 (v.natAbs + halfOf s) := ⟨by
  have := (abs127 h).out
  have : halfOf s ≤ 85070591730234615865843651857942052864 := by
    unfold halfOf
    split
    · omega
    · exact pow_lt (s - 1) 126 (by omega)
  omega⟩
theorem signed_at (x : Int) (n : Nat) (b : Bool) (w : World) (hx : x = n) (hn : n < 18446744073709551616) :
    Calls Try.prog 89 #[.int .u64 x, .bool b] w fun e w' => e = .returned (.tuple #[.int .i64 (sval (withSign b n)), .bool (sok (withSign b n))]) ∧ w = w' := by
  subst hx; exact signed_any n b w hn

theorem round_out (v s : Int) (w : World) (hs : s < 0 ∨ 126 < s) :
    Calls Try.prog 13 #[Wv v, .int .i64 s] w fun e w' => e = .returned (.tuple #[.int .i64 0, .bool false]) ∧ Below w.heap.size w w' := by
  rcases hs with hs | hs
  · go_enter Try.func13, Try.ntmps13
    go_wp2_with fail
    go_ret2
    exact ⟨rfl, (Below.refl _ _).alloc (Nat.le_refl _) _⟩
  · have hs2 : ¬ s < 0 := by omega
    go_enter Try.func13, Try.ntmps13
    go_wp2_with fail
    go_ret2
    exact ⟨rfl, (Below.refl _ _).alloc (Nat.le_refl _) _⟩

/-- What the second half of Round comes to. -/
theorem round_end (q : Nat) (hq : q < 18446744073709551616) : wh q = 0 ∧ wl q = q := by unfold wh wl; omega
theorem sign_wh (v : Int) (q : Nat) : withSign (decide (wh v < 0)) q = withSign (decide (v < 0)) q := by
  rw [decide_eq_decide.2 (wh_neg v)]
set_option maxHeartbeats 2000000 in
theorem round_any (v : Int) (s : Nat) (w : World) (h : InW v) (hs : s ≤ 126) :
    Calls Try.prog 13 #[Wv v, .int .i64 s] w fun e w' => e = .returned (.tuple #[.int .i64 (sval (withSign (decide (v < 0)) (rq v.natAbs s))), .bool (sok (withSign (decide (v < 0)) (rq v.natAbs s)))]) ∧ Below w.heap.size w w' := by
  have g1 : ¬ (s : Int) < 0 := by omega
  have g2 : ¬ (126 : Int) < s := by omega
  have g3 : (0 : Int) ≤ s := by omega
  have l127 := abs127 h
  have l128 := abs128 h s hs
  have hs127 : s ≤ 127 := by omega
  go_enter Try.func13, Try.ntmps13
  go_wp2_with fail
  generalize hW : World.alloc w _ = W
  have e0 : W.heap[w.heap.size]? = some (.cells #[.int .i64 (wh v), .int .u64 (wl v)] 24 (0, 0)) := by subst hW; exact heap_alloc_new w _
  have hB : Below w.heap.size w W := by subst hW; exact (Below.refl _ _).alloc (Nat.le_refl _) _
  have hw : w.heap.size < W.heap.size := by subst hW; simp
  clear hW
  refine (wsize_any v _ h).mono ?_
  rintro e w1 ⟨rfl, hb⟩
  have e1 := (hb.block _ hw).trans e0
  have a0 : w1.cell? ⟨w.heap.size, 0, none⟩ = some (.int .i64 (wh v)) := by rw [cell_of_row w1 _ _ _ _ _ e1]; rfl
  have a1 : w1.cell? ⟨w.heap.size, 1, none⟩ = some (.int .u64 (wl v)) := by rw [cell_of_row w1 _ _ _ _ _ e1]; rfl
  have HB := hB.trans (hb.mono (Nat.le_of_lt hw))
  clear e0 e1 hb hB hw
  by_cases h0 : s = 0
  · have g4 : ¬ (0 : Int) < s := by omega
    have hrq : rq v.natAbs s = v.natAbs / 2 ^ s := by unfold rq halfOf; rw [if_pos h0]; rfl
    have HQ := Lib.hid hrq
    have hl : Lt128 v.natAbs := ⟨by have := l127.out; omega⟩
    clear hrq h0
    go_wp2_with fail
    refine (shr_any v.natAbs s _ hs127 hl).mono ?_
    rintro e w2 ⟨rfl, rfl⟩
    by_cases hq : rq v.natAbs s < 18446744073709551616
    · rw [← HQ.out]
      have HE := Lib.hid (round_end _ hq)
      have t1 : (wh (rq v.natAbs s) != 0) = false := by rw [HE.out.1]; rfl
      have HQ2 := Lib.hid hq
      clear hq
      go_wp2_with fail
      refine (signed_at _ _ _ _ HE.out.2 HQ2.out).mono ?_
      rintro e w3 ⟨rfl, rfl⟩
      rw [sign_wh]
      go_wp2_with fail
      go_ret2
      exact ⟨rfl, HB⟩
    · rw [← HQ.out]
      have t1 : (wh (rq v.natAbs s) != 0) = true := by rw [bne_iff_ne]; unfold wh; omega
      have HN := Lib.hid (sok_no (z := withSign (decide (v < 0)) (rq v.natAbs s)) (by unfold withSign; split <;> omega))
      clear hq
      go_wp2_with fail
      go_ret2
      exact ⟨tupleb HN.out.2 HN.out.1, HB⟩
  · have g4 : (0 : Int) < s := by omega
    have hs1 : 1 ≤ s := by omega
    have hho : halfOf s = 2 ^ (s - 1) := by unfold halfOf; rw [if_neg h0]
    have HH := Lib.hid hho
    clear hho h0
    go_wp2_with fail
    refine (half_any v.natAbs s _ hs1 hs l127).mono ?_
    rintro e w2 ⟨rfl, rfl⟩
    rw [← HH.out]
    go_wp2_with fail
    refine (shr_any (v.natAbs + halfOf s) s _ hs127 l128).mono ?_
    rintro e w2 ⟨rfl, rfl⟩
    by_cases hq : rq v.natAbs s < 18446744073709551616
    · have HE := Lib.hid (round_end _ hq)
      have t1 : (wh (rq v.natAbs s) != 0) = false := by rw [HE.out.1]; rfl
      have HQ2 := Lib.hid hq
      clear hq
      show _
      rw [show (v.natAbs + halfOf s) / 2 ^ s = rq v.natAbs s from rfl]
      go_wp2_with fail
      refine (signed_at _ _ _ _ HE.out.2 HQ2.out).mono ?_
      rintro e w3 ⟨rfl, rfl⟩
      rw [sign_wh]
      go_wp2_with fail
      go_ret2
      exact ⟨rfl, HB⟩
    · rw [show (v.natAbs + halfOf s) / 2 ^ s = rq v.natAbs s from rfl]
      have t1 : (wh (rq v.natAbs s) != 0) = true := by rw [bne_iff_ne]; unfold wh; omega
      have HN := Lib.hid (sok_no (z := withSign (decide (v < 0)) (rq v.natAbs s)) (by unfold withSign; split <;> omega))
      clear hq
      go_wp2_with fail
      go_ret2
      exact ⟨tupleb HN.out.2 HN.out.1, HB⟩
end Go.Proofs.Ytdleeeahonfnkaa

/- WideD -/
namespace Go.Proofs.Ytdleeeahonfnkaa
open Go.RowKit

theorem wneg_no (v : Int) (w : World) (h : wh v = -9223372036854775808) (h2 : wl v = 0) :
    Calls Try.prog 82 #[Wv v] w fun e w' => e = .returned (.tuple #[.agg #[.int .i64 0, .int .u64 0], .bool false]) ∧ Below w.heap.size w w' := by
  have t1 : (wh v == -9223372036854775808) = true := by rw [h]; rfl
  have t2 : (wl v == 0) = true := by rw [h2]; rfl
  clear h h2
  go_enter Try.func82, Try.ntmps82
  go_wp2_with fail
  exact bodyPost_ret (v := .tuple #[.agg #[.int .i64 0, .int .u64 0], .bool false]) (by simp [results, Try.results82, go_sem]) rfl ⟨rfl, ((Below.refl _ _).alloc (Nat.le_refl _) _).alloc (by simp) _⟩
theorem not_min (v : Int) (h : v ≠ -170141183460469231731687303715884105728) (h2 : wh v = -9223372036854775808) : (wl v == 0) = false := by
  rw [beq_eq_false_iff_ne]; unfold wh at h2; unfold wl; omega
theorem nneg_eq (v : Int) (h : v ≠ -170141183460469231731687303715884105728) : nneg v = -v := by unfold nneg; rw [if_neg h]
set_option maxHeartbeats 1000000 in
theorem wneg_yes (v : Int) (w : World) (hv : InW v) (h : v ≠ -170141183460469231731687303715884105728) :
    Calls Try.prog 82 #[Wv v] w fun e w' => e = .returned (.tuple #[Wv (-v), .bool true]) ∧ Below w.heap.size w w' := by
  rw [← nneg_eq v h]
  by_cases h1 : wh v = -9223372036854775808
  · have t1 : (wh v == -9223372036854775808) = true := by rw [h1]; rfl
    have t2 := not_min v h h1
    clear h1 h
    go_enter Try.func82, Try.ntmps82
    go_wp2_with fail
    generalize hW : World.alloc (World.alloc w _) _ = W
    have e0 : W.heap[w.heap.size + 1]? = some (.cells #[.int .i64 0, .int .u64 0] 24 (0, 0)) := by subst hW; exact heap_alloc2_new w _ _
    have hB : Below w.heap.size w W := by subst hW; exact ((Below.refl _ _).alloc (Nat.le_refl _) _).alloc (by simp) _
    have hw : w.heap.size + 1 < W.heap.size := by subst hW; simp
    clear hW
    refine (negate_any v _ hv).mono ?_
    rintro e w1 ⟨rfl, hb⟩
    have e1 := (hb.block _ hw).trans e0
    have a0 : w1.cell? ⟨w.heap.size + 1, 0, none⟩ = some (.int .i64 0) := by rw [cell_of_row w1 _ _ _ _ _ e1]; rfl
    have a1 : w1.cell? ⟨w.heap.size + 1, 1, none⟩ = some (.int .u64 0) := by rw [cell_of_row w1 _ _ _ _ _ e1]; rfl
    have g : ∀ o, w1.frozen? ⟨w.heap.size + 1, o, none⟩ = false := fun o => by simp [World.frozen?, e1]
    have HB := hB.trans (hb.mono (by omega))
    clear e0 e1 hb hB hw
    go_wp2_with fail
    exact bodyPost_ret (v := .tuple #[Wv (nneg v), .bool true]) (by simp [results, Try.results82, go_sem, a0, a1]) rfl ⟨rfl, Below.set2 (Nat.le_add_right _ _) HB _ _⟩
  · have t1 : (wh v == -9223372036854775808) = false := by rw [beq_eq_false_iff_ne]; exact h1
    clear h1 h
    go_enter Try.func82, Try.ntmps82
    go_wp2_with fail
    generalize hW : World.alloc (World.alloc w _) _ = W
    have e0 : W.heap[w.heap.size + 1]? = some (.cells #[.int .i64 0, .int .u64 0] 24 (0, 0)) := by subst hW; exact heap_alloc2_new w _ _
    have hB : Below w.heap.size w W := by subst hW; exact ((Below.refl _ _).alloc (Nat.le_refl _) _).alloc (by simp) _
    have hw : w.heap.size + 1 < W.heap.size := by subst hW; simp
    clear hW
    refine (negate_any v _ hv).mono ?_
    rintro e w1 ⟨rfl, hb⟩
    have e1 := (hb.block _ hw).trans e0
    have a0 : w1.cell? ⟨w.heap.size + 1, 0, none⟩ = some (.int .i64 0) := by rw [cell_of_row w1 _ _ _ _ _ e1]; rfl
    have a1 : w1.cell? ⟨w.heap.size + 1, 1, none⟩ = some (.int .u64 0) := by rw [cell_of_row w1 _ _ _ _ _ e1]; rfl
    have g : ∀ o, w1.frozen? ⟨w.heap.size + 1, o, none⟩ = false := fun o => by simp [World.frozen?, e1]
    have HB := hB.trans (hb.mono (by omega))
    clear e0 e1 hb hB hw
    go_wp2_with fail
    exact bodyPost_ret (v := .tuple #[Wv (nneg v), .bool true]) (by simp [results, Try.results82, go_sem, a0, a1]) rfl ⟨rfl, Below.set2 (Nat.le_add_right _ _) HB _ _⟩

theorem bits_neg1 (b : Int) (b1 : -9223372036854775808 ≤ b) (b2 : b ≤ 9223372036854775807) : bits .and .i64 (-1) b = b := by
  show IntKind.i64.wrap ((BitVec.ofInt 64 (-1) &&& BitVec.ofInt 64 b).toNat : Int) = b
  have e : BitVec.ofInt 64 (-1) = BitVec.allOnes 64 := by decide
  rw [e, BitVec.allOnes_and, BitVec.toNat_ofInt, IntKind.wrap_i64]
  omega
theorem bits_zero (b : Int) : bits .and .i64 0 b = 0 := by
  show IntKind.i64.wrap ((BitVec.ofInt 64 0 &&& BitVec.ofInt 64 b).toNat : Int) = 0
  have e : BitVec.ofInt 64 0 = 0#64 := by decide
  rw [e, BitVec.zero_and]
  rfl
theorem top_neg (a : Int) (h : a < 0) (h1 : -9223372036854775808 ≤ a) : a / 9223372036854775808 = -1 := by omega
theorem top_pos (a : Int) (h : ¬ a < 0) (h1 : a ≤ 9223372036854775807) : a / 9223372036854775808 = 0 := by omega
theorem mul_parts (a b : Int) (a1 : -9223372036854775808 ≤ a) (a2 : a ≤ 9223372036854775807) (b1 : -9223372036854775808 ≤ b) (b2 : b ≤ 9223372036854775807) :
    wrap64 (wrap64 (wrap64 (IntKind.u64.wrap a * IntKind.u64.wrap b / 18446744073709551616) - bits .and .i64 (a / 9223372036854775808) b) - bits .and .i64 (b / 9223372036854775808) a) = wh (a * b) ∧
      IntKind.u64.wrap a * IntKind.u64.wrap b % 18446744073709551616 = wl (a * b) := by
  have hb : -85070591730234615865843651857942052864 ≤ a * b ∧ a * b ≤ 85070591730234615865843651857942052864 := by
    have h1 : (a * b).natAbs = a.natAbs * b.natAbs := Int.natAbs_mul a b
    have h2 : a.natAbs * b.natAbs ≤ 9223372036854775808 * 9223372036854775808 := Nat.mul_le_mul (by omega) (by omega)
    omega
  unfold wh wl
  simp only [IntKind.wrap_u64]
  by_cases ha : a < 0
  · rw [top_neg a ha a1, bits_neg1 b b1 b2, show a % 18446744073709551616 = a + 18446744073709551616 by omega]
    by_cases hbn : b < 0
    · rw [top_neg b hbn b1, bits_neg1 a a1 a2, show b % 18446744073709551616 = b + 18446744073709551616 by omega,
        show (a + 18446744073709551616) * (b + 18446744073709551616) = a * b + (a + b + 18446744073709551616) * 18446744073709551616 by grind]
      generalize a * b = c at *
      unfold wrap64
      omega
    · rw [top_pos b hbn b2, bits_zero, show b % 18446744073709551616 = b by omega, show (a + 18446744073709551616) * b = a * b + b * 18446744073709551616 by grind]
      generalize a * b = c at *
      unfold wrap64
      omega
  · rw [top_pos a ha a2, bits_zero, show a % 18446744073709551616 = a by omega]
    by_cases hbn : b < 0
    · rw [top_neg b hbn b1, bits_neg1 a a1 a2, show b % 18446744073709551616 = b + 18446744073709551616 by omega, show a * (b + 18446744073709551616) = a * b + a * 18446744073709551616 by grind]
      generalize a * b = c at *
      unfold wrap64
      omega
    · rw [top_pos b hbn b2, bits_zero, show b % 18446744073709551616 = b by omega]
      generalize a * b = c at *
      unfold wrap64
      omega
theorem wrap_hi (x : Int) : IntKind.u64.wrap x < 18446744073709551616 := by rw [IntKind.wrap_u64]; omega
theorem wmul_any (a b : Int) (w : World) (a1 : -9223372036854775808 ≤ a) (a2 : a ≤ 9223372036854775807) (b1 : -9223372036854775808 ≤ b) (b2 : b ≤ 9223372036854775807) :
    Calls Try.prog 84 #[.int .i64 a, .int .i64 b] w fun e w' => e = .returned (Wv (a * b)) ∧ Below w.heap.size w w' := by
  have HM := Lib.hid (mul_parts a b a1 a2 b1 b2)
  go_enter Try.func84, Try.ntmps84
  go_wp2_with fail
  refine (mul64_any (IntKind.u64.wrap a) (IntKind.u64.wrap b) _ (wrap_lo a) (wrap_hi a) (wrap_lo b) (wrap_hi b)).mono ?_
  rintro e w' ⟨rfl, rfl⟩
  go_wp2_with fail
  refine bodyPost_ret (v := Value.agg #[.int .i64 (wrap64 (wrap64 (wrap64 (IntKind.u64.wrap a * IntKind.u64.wrap b / 18446744073709551616) - bits .and .i64 (a / 9223372036854775808) b) - bits .and .i64 (b / 9223372036854775808) a)), .int .u64 (IntKind.u64.wrap a * IntKind.u64.wrap b % 18446744073709551616)]) (by simp [results, Try.results84, go_sem]) rfl ⟨ret_val (agg2 HM.out.1 HM.out.2), (Below.refl _ _).alloc (Nat.le_refl _) _⟩

theorem cmp_val (x y : Int) : cmpI x y = if wh x < wh y then -1 else if wh x = wh y then (if wl x < wl y then -1 else if wl x = wl y then 0 else 1) else 1 := by
  unfold cmpI wh wl
  repeat split
  all_goals omega
theorem wcmp_any (x y : Int) (w : World) :
    Calls Try.prog 85 #[Wv x, Wv y] w fun e w' => e = .returned (.int .i64 (cmpI x y)) ∧ Below w.heap.size w w' := by
  have HC := Lib.hid (cmp_val x y)
  by_cases h1 : wh x < wh y
  · go_enter Try.func85, Try.ntmps85
    go_wp2_with fail
    go_ret
    exact ⟨ret_int (by rw [HC.out, if_pos h1]), ((Below.refl _ _).alloc (Nat.le_refl _) _).alloc (by simp) _⟩
  · by_cases h2 : wh x = wh y
    · have t1 : (wh x == wh y) = true := by rw [beq_iff_eq]; exact h2
      have H2 := Lib.hid h2
      clear h2
      by_cases h3 : wl x < wl y
      · go_enter Try.func85, Try.ntmps85
        go_wp2_with fail
        go_ret
        exact ⟨ret_int (by rw [HC.out, if_neg (Int.not_lt.2 h1), if_pos H2.out, if_pos h3]), ((Below.refl _ _).alloc (Nat.le_refl _) _).alloc (by simp) _⟩
      · by_cases h4 : wl x = wl y
        · have t2 : (wl x == wl y) = true := by rw [beq_iff_eq]; exact h4
          have H4 := Lib.hid h4
          clear h4
          go_enter Try.func85, Try.ntmps85
          go_wp2_with fail
          go_ret
          exact ⟨ret_int (by rw [HC.out, if_neg (Int.not_lt.2 h1), if_pos H2.out, if_neg (Int.not_lt.2 h3), if_pos H4.out]), ((Below.refl _ _).alloc (Nat.le_refl _) _).alloc (by simp) _⟩
        · have t2 : (wl x == wl y) = false := by rw [beq_eq_false_iff_ne]; exact h4
          have H4 := Lib.hid h4
          clear h4
          go_enter Try.func85, Try.ntmps85
          go_wp2_with fail
          go_ret
          exact ⟨ret_int (by rw [HC.out, if_neg (Int.not_lt.2 h1), if_pos H2.out, if_neg (Int.not_lt.2 h3), if_neg H4.out]), ((Below.refl _ _).alloc (Nat.le_refl _) _).alloc (by simp) _⟩
    · have t1 : (wh x == wh y) = false := by rw [beq_eq_false_iff_ne]; exact h2
      have H2 := Lib.hid h2
      clear h2
      go_enter Try.func85, Try.ntmps85
      go_wp2_with fail
      go_ret
      exact ⟨ret_int (by rw [HC.out, if_neg (Int.not_lt.2 h1), if_neg H2.out]), ((Below.refl _ _).alloc (Nat.le_refl _) _).alloc (by simp) _⟩
end Go.Proofs.Ytdleeeahonfnkaa

/- WideE -/
namespace Go.Proofs.Ytdleeeahonfnkaa
open Go.RowKit

/-! Signs of numbers of 64 bits -/
theorem bits_sign (x : BitVec 64) : IntKind.i64.wrap (x.toNat : Int) < 0 ↔ x.msb = true := by
  rw [BitVec.msb_eq_decide, IntKind.wrap_i64]
  have := x.isLt
  simp only [decide_eq_true_eq]
  omega
theorem msb_int (a : Int) (h1 : -9223372036854775808 ≤ a) (h2 : a ≤ 9223372036854775807) : (BitVec.ofInt 64 a).msb = decide (a < 0) := by
  rw [BitVec.msb_eq_decide, BitVec.toNat_ofInt]
  by_cases h : a < 0
  · rw [decide_eq_true h]; simp only [decide_eq_true_eq]; omega
  · rw [decide_eq_false h]; simp only [decide_eq_false_iff_not]; omega
theorem wrap_bv (x : BitVec 64) : BitVec.ofInt 64 (IntKind.i64.wrap (x.toNat : Int)) = x := by
  apply BitVec.eq_of_toNat_eq
  rw [BitVec.toNat_ofInt, IntKind.wrap_i64]
  have := x.isLt
  omega
/-- Only two numbers of one sign can go too far, and then the sign turns. -/
theorem turned (p q n : Int) (p1 : -9223372036854775808 ≤ p) (p2 : p ≤ 9223372036854775807) (q1 : -9223372036854775808 ≤ q) (q2 : q ≤ 9223372036854775807) (n1 : -9223372036854775808 ≤ n) (n2 : n ≤ 9223372036854775807) :
    bits .and .i64 (bits .xor .i64 p n) (bits .xor .i64 q n) < 0 ↔ ((p < 0) ↔ ¬ n < 0) ∧ ((q < 0) ↔ ¬ n < 0) := by
  have e : bits .and .i64 (bits .xor .i64 p n) (bits .xor .i64 q n) = IntKind.i64.wrap (((BitVec.ofInt 64 p ^^^ BitVec.ofInt 64 n) &&& (BitVec.ofInt 64 q ^^^ BitVec.ofInt 64 n)).toNat : Int) := by
    show IntKind.i64.wrap ((BitVec.ofInt 64 (IntKind.i64.wrap ((BitVec.ofInt 64 p ^^^ BitVec.ofInt 64 n).toNat : Int)) &&& BitVec.ofInt 64 (IntKind.i64.wrap ((BitVec.ofInt 64 q ^^^ BitVec.ofInt 64 n).toNat : Int))).toNat : Int) = _
    rw [wrap_bv, wrap_bv]
  rw [e, bits_sign, BitVec.msb_and, BitVec.msb_xor, BitVec.msb_xor, msb_int p p1 p2, msb_int q q1 q2, msb_int n n1 n2]
  by_cases a : p < 0 <;> by_cases b : q < 0 <;> by_cases c : n < 0 <;> simp [a, b, c]

def nextHi (x y : Int) : Int := wrap64 (wrap64 (wh x + wh y) + wrap64 (addHi (wl x) (wl y)))
theorem next_lo (x y : Int) : addLo (wl x) (wl y) = wl (x + y) := by unfold addLo wl; omega
theorem next_hi {x y : Int} (hx : InW x) (hy : InW y) (hs : InW (x + y)) : nextHi x y = wh (x + y) := by
  have := hx.lo; have := hx.hi; have := hy.lo; have := hy.hi; have := hs.lo; have := hs.hi
  unfold nextHi wrap64 addHi wh wl
  omega
theorem next_bd (x y : Int) : -9223372036854775808 ≤ nextHi x y ∧ nextHi x y ≤ 9223372036854775807 := by unfold nextHi wrap64; omega
theorem next_ok {x y : Int} (hx : InW x) (hy : InW y) : bits .and .i64 (bits .xor .i64 (wh x) (nextHi x y)) (bits .xor .i64 (wh y) (nextHi x y)) < 0 ↔ ¬ InW (x + y) := by
  rw [turned _ _ _ (wh_lo hx) (wh_hi hx) (wh_lo hy) (wh_hi hy) (next_bd x y).1 (next_bd x y).2]
  have := hx.lo; have := hx.hi; have := hy.lo; have := hy.hi
  have e : InW (x + y) ↔ -170141183460469231731687303715884105728 ≤ x + y ∧ x + y < 170141183460469231731687303715884105728 := ⟨fun h => ⟨h.lo, h.hi⟩, fun h => ⟨h.1, h.2⟩⟩
  rw [e]
  unfold nextHi wrap64 addHi wh wl
  omega
def accum (xs : Nat → Int) : Nat → Int
  | 0 => 0
  | k + 1 => accum xs k + xs k
theorem inW_zero : InW 0 := ⟨by omega, by omega⟩
theorem wh_zero : wh 0 = 0 := rfl
theorem wl_zero : wl 0 = 0 := rfl

/-- The slice's numbers, in memory. -/
structure Holds (w : World) (b o n : Nat) (xs : Nat → Int) : Prop where
  hi : ∀ i, i < n → w.cell? ⟨b, o + i * 2, none⟩ = some (.int .i64 (wh (xs i)))
  lo : ∀ i, i < n → w.cell? ⟨b, o + i * 2 + 1, none⟩ = some (.int .u64 (wl (xs i)))
theorem heap_set2 {w : World} {B : Nat} {a b : Value} {t : TypeId} {fr : Nat × Nat} (h : w.heap[B]? = some (.cells #[a, b] t fr)) (x y : Value) : ((w.setCell ⟨B, 0, none⟩ x).setCell ⟨B, 1, none⟩ y).heap[B]? = some (.cells #[x, y] t fr) := by
  simp [World.setCell, Array.getElem?_modify, h]
def addRes (xs : Nat → Int) (n m : Nat) : Value := if m = n then .tuple #[Wv (accum xs n), .bool true] else .tuple #[.agg #[.int .i64 0, .int .u64 0], .bool false]
set_option maxHeartbeats 2000000 in
theorem wadd_any (b o n c m : Nat) (xs : Nat → Int) (w : World) (hn : n ≤ 9223372036854775807) (hb : b < w.heap.size) (hx : ∀ i, i < n → InW (xs i)) (hm : m ≤ n) (hok : ∀ k, k ≤ m → InW (accum xs k)) (hend : m = n ∨ ¬ InW (accum xs (m + 1))) (hc : Holds w b o n xs) :
    Calls Try.prog 81 #[.slice (some ⟨b, o, none⟩) n c] w fun e w' => e = .returned (addRes xs n m) ∧ Below w.heap.size w w' := by
  go_enter Try.func81, Try.ntmps81
  go_wp2
  go_loopw [12] (fun i wr => ∃ k : Nat, k ≤ m ∧ i = .int .i64 k ∧ wr.heap[w.heap.size]? = some (.cells #[.int .i64 0, .int .u64 0] 24 (0, 0)) ∧ wr.heap[w.heap.size + 1]? = some (.cells #[.int .i64 (wh (accum xs k)), .int .u64 (wl (accum xs k))] 24 (0, 0)) ∧ w.heap.size + 1 < wr.heap.size ∧ Below w.heap.size w wr) (fun i _ => n - (intOf i).toNat)
  case atStart =>
    refine ⟨0, Nat.zero_le _, rfl, ?_, ?_, by simp, ((Below.refl _ _).alloc (Nat.le_refl _) _).alloc (by simp) _⟩
    · exact heap_alloc2_old w _ _
    · exact heap_alloc2_new w _ _
  case round =>
    obtain ⟨k, hk, rfl, e0, e1, hz, hB⟩ := hrel
    have c0 : wr.cell? ⟨w.heap.size, 0, none⟩ = some (.int .i64 0) := by rw [cell_of_row wr _ _ _ _ _ e0]; rfl
    have c1 : wr.cell? ⟨w.heap.size, 1, none⟩ = some (.int .u64 0) := by rw [cell_of_row wr _ _ _ _ _ e0]; rfl
    have a0 : wr.cell? ⟨w.heap.size + 1, 0, none⟩ = some (.int .i64 (wh (accum xs k))) := by rw [cell_of_row wr _ _ _ _ _ e1]; rfl
    have a1 : wr.cell? ⟨w.heap.size + 1, 1, none⟩ = some (.int .u64 (wl (accum xs k))) := by rw [cell_of_row wr _ _ _ _ _ e1]; rfl
    have g : ∀ o, wr.frozen? ⟨w.heap.size + 1, o, none⟩ = false := fun o => by simp [World.frozen?, e1]
    have g0 : ∀ o, wr.frozen? ⟨w.heap.size, o, none⟩ = false := fun o => by simp [World.frozen?, e0]
    have E0 := Lib.hid e0
    have E1 := Lib.hid e1
    clear e0 e1
    have hz0 : w.heap.size < wr.heap.size := by omega
    have h0 : (0 : Int) ≤ k := by omega
    by_cases hlt : k < n
    · have b0 := (hB.cell (p := ⟨b, o + k * 2, none⟩) hb).trans (hc.hi k hlt)
      have b1 := (hB.cell (p := ⟨b, o + k * 2 + 1, none⟩) hb).trans (hc.lo k hlt)
      have hrun := fun w => add64_run (wl (accum xs k)) (wl (xs k)) w (wl_lo _) (wl_lo _)
      have h8 : (k : Int) < n := by omega
      have HX := Lib.hid (hx k hlt)
      have HK := Lib.hid (hok k hk)
      by_cases hkm : k < m
      · have H := Lib.hid (hok (k + 1) hkm)
        have ht := mt (next_ok HK.out HX.out).1 (fun f => f H.out)
        unfold nextHi at ht
        clear hok hx hc hend
        go_wp2
        go_roundw
        case rel =>
          refine ⟨k + 1, hkm, by go_num, ?_, ?_, ?_, ?_⟩
          · rw [Below.heap_alloc _ _ _ (by simp [World.setCell]; omega), Below.heap_alloc _ _ _ (by simp [World.setCell]; omega), Below.heap_setCell _ _ _ _ (by simp), Below.heap_setCell _ _ _ _ (by simp)]
            exact E0.out
          · rw [Below.heap_alloc _ _ _ (by simp [World.setCell]; omega), Below.heap_alloc _ _ _ (by simp [World.setCell]; omega), heap_set2 E1.out, next_lo]
            rw [show wrap64 (wrap64 (wh (accum xs k) + wh (xs k)) + wrap64 (addHi (wl (accum xs k)) (wl (xs k)))) = wh (accum xs (k + 1)) from next_hi HK.out HX.out H.out]
            rfl
          · simp [World.setCell]; omega
          · exact (((hB.setCell (Nat.le_add_right _ _) _).setCell (Nat.le_add_right _ _) _).alloc (by simp [World.setCell]; omega) _).alloc (by simp [World.setCell]; omega) _
        case measure => simp [intOf]; omega
      · obtain rfl : k = m := by omega
        have hne : ¬ k = n := by omega
        have H := Lib.hid (hend.resolve_left hne)
        have HR := Lib.hid (show addRes xs n k = .tuple #[.agg #[.int .i64 0, .int .u64 0], .bool false] by unfold addRes; rw [if_neg hne])
        have ht := (next_ok HK.out HX.out).2 H.out
        unfold nextHi at ht
        clear hok hx hc hend hne hm
        go_wp2
        rw [HR.out]
        exact bodyPost_ret (v := .tuple #[.agg #[.int .i64 0, .int .u64 0], .bool false]) (by simp [results, Try.results81, go_sem, c0, c1, hz0]) rfl ⟨rfl, (((hB.setCell (Nat.le_refl _) _).setCell (Nat.le_refl _) _).alloc (by simp [World.setCell]; omega) _).alloc (by simp [World.setCell]; omega) _⟩
    · obtain rfl : k = n := by omega
      obtain rfl : k = m := by omega
      have HR := Lib.hid (show addRes xs k k = .tuple #[Wv (accum xs k), .bool true] by unfold addRes; rw [if_pos rfl])
      clear hok hx hc hend hm
      go_wp2
      rw [HR.out]
      exact bodyPost_ret (v := .tuple #[Wv (accum xs k), .bool true]) (by simp [results, Try.results81, go_sem, c0, c1]) rfl ⟨rfl, (hB.setCell (Nat.le_refl _) _).setCell (Nat.le_refl _) _⟩
end Go.Proofs.Ytdleeeahonfnkaa

/- WideF -/
namespace Go.Proofs.Ytdleeeahonfnkaa
open Go.RowKit

theorem bitLen_pos (x : Nat) (h : x ≠ 0) (hx : x < 2 ^ 64) : 1 ≤ Lib.bitLen x := by rw [Lib.bitLen_half x h hx]; omega
theorem bitLen_iff (x k : Nat) (hk : k ≤ 63) (hx : x < 18446744073709551616) : Lib.bitLen x ≤ k ↔ x < 2 ^ k := by
  constructor
  · intro h
    rcases Nat.lt_or_ge x (2 ^ k) with h1 | h1
    · exact h1
    · have h2 := Lib.bitLen_shift k x h1 hx
      have h3 : 1 ≤ x / 2 ^ k := (Nat.le_div_iff_mul_le (Nat.two_pow_pos k)).2 (by omega)
      have h4 := bitLen_pos (x / 2 ^ k) (by omega) (Nat.lt_of_le_of_lt (Nat.div_le_self _ _) hx)
      omega
  · intro h; exact Lib.bitLen_le x k (by omega) h
theorem xor_neg1 (a : Int) (h1 : -9223372036854775808 ≤ a) (h2 : a ≤ 9223372036854775807) : bits .xor .i64 a (-1) = -a - 1 := by
  show IntKind.i64.wrap ((BitVec.ofInt 64 a ^^^ BitVec.ofInt 64 (-1)).toNat : Int) = _
  have e : BitVec.ofInt 64 (-1) = BitVec.allOnes 64 := by decide
  rw [e, BitVec.xor_allOnes, BitVec.toNat_not, BitVec.toNat_ofInt, IntKind.wrap_i64]
  omega
theorem xor_zero (a : Int) (h1 : -9223372036854775808 ≤ a) (h2 : a ≤ 9223372036854775807) : bits .xor .i64 a 0 = a := by
  show IntKind.i64.wrap ((BitVec.ofInt 64 a ^^^ BitVec.ofInt 64 0).toNat : Int) = _
  have e : BitVec.ofInt 64 0 = 0#64 := by decide
  rw [e, BitVec.xor_zero, BitVec.toNat_ofInt, IntKind.wrap_i64]
  omega
def folded (a : Int) : Int := IntKind.u64.wrap (bits .xor .i64 a (a / 9223372036854775808))
theorem folded_val (a : Int) (h1 : -9223372036854775808 ≤ a) (h2 : a ≤ 9223372036854775807) : folded a = if a < 0 then -a - 1 else a := by
  unfold folded
  by_cases h : a < 0
  · rw [if_pos h, top_neg a h h1, xor_neg1 a h1 h2, IntKind.wrap_u64]; omega
  · rw [if_neg h, top_pos a h h2, xor_zero a h1 h2, IntKind.wrap_u64]; omega
theorem folded_bd (a : Int) (h1 : -9223372036854775808 ≤ a) (h2 : a ≤ 9223372036854775807) : 0 ≤ folded a ∧ folded a ≤ 9223372036854775807 := by
  rw [folded_val a h1 h2]; split <;> omega
theorem shift_fits (a : Int) (s : Nat) (h1 : -9223372036854775808 ≤ a) (h2 : a ≤ 9223372036854775807) (hs : s ≤ 127) : (127 : Int) < (Lib.bitLen (folded a).toNat : Int) + s ↔ ¬ InW (a * 2 ^ s) := by
  have hb := folded_bd a h1 h2
  have hv := folded_val a h1 h2
  have e : InW (a * 2 ^ s) ↔ -170141183460469231731687303715884105728 ≤ a * 2 ^ s ∧ a * 2 ^ s < 170141183460469231731687303715884105728 := ⟨fun h => ⟨h.lo, h.hi⟩, fun h => ⟨h.1, h.2⟩⟩
  by_cases h63 : 127 - s ≤ 63
  · have hi := bitLen_iff (folded a).toNat (127 - s) h63 (by omega)
    have hp : 2 ^ (127 - s) * 2 ^ s = 170141183460469231731687303715884105728 := by rw [← Nat.pow_add, show 127 - s + s = 127 by omega]
    have hP : 0 < 2 ^ s := Nat.two_pow_pos s
    rw [e, pow_int]
    generalize 2 ^ s = P at *
    generalize 2 ^ (127 - s) = Q at *
    have k1 : (127 : Int) < (Lib.bitLen (folded a).toNat : Int) + s ↔ ¬ (folded a).toNat < Q := by rw [← hi]; omega
    rw [k1]
    have hp' : (170141183460469231731687303715884105728 : Int) = (Q : Int) * P := by rw [← Int.natCast_mul, hp]; rfl
    have hPi : (0 : Int) < P := by omega
    rw [hp', ← Int.neg_mul]
    constructor
    · intro hh hf
      refine hh ?_
      have f1 := Int.le_of_mul_le_mul_right hf.1 hPi
      have f2 := Int.lt_of_mul_lt_mul_right hf.2 (Int.le_of_lt hPi)
      split at hv <;> omega
    · intro hh hf
      refine hh ⟨Int.mul_le_mul_of_nonneg_right ?_ (Int.le_of_lt hPi), Int.mul_lt_mul_of_pos_right ?_ hPi⟩
      · split at hv <;> omega
      · split at hv <;> omega
  · have hl : Lib.bitLen (folded a).toNat ≤ 63 := Lib.bitLen_le _ 63 (by omega) (by omega)
    have hp : 2 ^ s ≤ 2 ^ 63 := pow_lt s 63 (by omega)
    rw [e, pow_int]
    generalize 2 ^ s = P at *
    have m1 : (a * (P : Int)).natAbs = a.natAbs * P := by rw [Int.natAbs_mul]; rfl
    have m2 : a.natAbs * P ≤ 9223372036854775808 * 9223372036854775808 := Nat.mul_le_mul (by omega) hp
    omega
theorem shift_top (a : Int) (s : Nat) (h64 : 64 ≤ s) (h : InW (a * 2 ^ s)) : wrap64 (a * 2 ^ (s - 64)) = wh (a * 2 ^ s) ∧ 0 = wl (a * 2 ^ s) := by
  have e : (2 : Int) ^ s = 2 ^ (s - 64) * 18446744073709551616 := by
    rw [show s = s - 64 + 64 by omega, Int.pow_add, show s - 64 + 64 - 64 = s - 64 by omega]
    rfl
  have l := h.lo
  have u := h.hi
  rw [e, ← Int.mul_assoc] at *
  generalize a * 2 ^ (s - 64) = c at *
  unfold wrap64 wh wl
  omega
theorem shift_low (a : Int) (s : Nat) (h64 : s < 64) : a / 2 ^ (64 - s) = wh (a * 2 ^ s) ∧ IntKind.u64.wrap (IntKind.u64.wrap a * 2 ^ s) = wl (a * 2 ^ s) := by
  have hp : (2 : Int) ^ (64 - s) * 2 ^ s = 18446744073709551616 := by rw [← Int.pow_add, show 64 - s + s = 64 by omega]; rfl
  constructor
  · unfold wh
    rw [← hp, Int.mul_ediv_mul_of_pos_left _ _ (Int.pow_pos (by decide))]
  · unfold wl
    simp only [IntKind.wrap_u64]
    rw [Int.mul_emod, Int.emod_emod_of_dvd _ (by exact ⟨1, by omega⟩), ← Int.mul_emod]
theorem wshift_out (a s : Int) (w : World) (hs : s < 0 ∨ 127 < s) :
    Calls Try.prog 83 #[.int .i64 a, .int .i64 s] w fun e w' => e = .returned (.tuple #[.agg #[.int .i64 0, .int .u64 0], .bool false]) ∧ Below w.heap.size w w' := by
  rcases hs with hs | hs
  · go_enter Try.func83, Try.ntmps83
    go_wp2_with fail
    exact bodyPost_ret (v := .tuple #[.agg #[.int .i64 0, .int .u64 0], .bool false]) (by simp [results, Try.results83, go_sem]) rfl ⟨rfl, (Below.refl _ _).alloc (Nat.le_refl _) _⟩
  · have hs2 : ¬ s < 0 := by omega
    go_enter Try.func83, Try.ntmps83
    go_wp2_with fail
    exact bodyPost_ret (v := .tuple #[.agg #[.int .i64 0, .int .u64 0], .bool false]) (by simp [results, Try.results83, go_sem]) rfl ⟨rfl, (Below.refl _ _).alloc (Nat.le_refl _) _⟩
theorem wshift_no (a : Int) (s : Nat) (w : World) (h1 : -9223372036854775808 ≤ a) (h2 : a ≤ 9223372036854775807) (hs : s ≤ 127) (h : ¬ InW (a * 2 ^ s)) :
    Calls Try.prog 83 #[.int .i64 a, .int .i64 s] w fun e w' => e = .returned (.tuple #[.agg #[.int .i64 0, .int .u64 0], .bool false]) ∧ Below w.heap.size w w' := by
  have g1 : ¬ (s : Int) < 0 := by omega
  have g2 : ¬ (127 : Int) < s := by omega
  have ht := (shift_fits a s h1 h2 hs).2 h
  have hb := folded_bd a h1 h2
  have hl := len_le64 (folded a) hb.1 (by omega)
  clear h
  go_enter Try.func83, Try.ntmps83
  go_wp2_with fail
  refine (len64_int (folded a) _ hb.1 (by omega)).mono ?_
  rintro e w' ⟨rfl, rfl⟩
  go_wp2_with fail
  exact bodyPost_ret (v := .tuple #[.agg #[.int .i64 0, .int .u64 0], .bool false]) (by simp [results, Try.results83, go_sem]) rfl ⟨rfl, (Below.refl _ _).alloc (Nat.le_refl _) _⟩
theorem wshift_yes (a : Int) (s : Nat) (w : World) (h1 : -9223372036854775808 ≤ a) (h2 : a ≤ 9223372036854775807) (hs : s ≤ 127) (h : InW (a * 2 ^ s)) :
    Calls Try.prog 83 #[.int .i64 a, .int .i64 s] w fun e w' => e = .returned (.tuple #[Wv (a * 2 ^ s), .bool true]) ∧ Below w.heap.size w w' := by
  have g1 : ¬ (s : Int) < 0 := by omega
  have g2 : ¬ (127 : Int) < s := by omega
  have ht := mt (shift_fits a s h1 h2 hs).1 (fun f => f h)
  have hb := folded_bd a h1 h2
  have hl := len_le64 (folded a) hb.1 (by omega)
  by_cases h64 : 64 ≤ s
  · have g3 : (64 : Int) ≤ s := by omega
    have HT := Lib.hid (shift_top a s h64 h)
    clear h
    go_enter Try.func83, Try.ntmps83
    go_wp2_with fail
    refine (len64_int (folded a) _ hb.1 (by omega)).mono ?_
    rintro e w' ⟨rfl, rfl⟩
    go_wp2_with fail
    refine bodyPost_ret (v := .tuple #[.agg #[.int .i64 (wrap64 (a * 2 ^ (s - 64))), .int .u64 0], .bool true]) (by simp [results, Try.results83, go_sem]) rfl ⟨?_, (Below.refl _ _).alloc (Nat.le_refl _) _⟩
    rw [HT.out.1]
    exact congrArg (fun z => Ending.returned (Value.tuple #[Value.agg #[Value.int .i64 (wh (a * 2 ^ s)), Value.int .u64 z], Value.bool true])) HT.out.2
  · have g3 : ¬ (64 : Int) ≤ s := by omega
    have g4 : (s : Int) < 64 := by omega
    have g5 : (0 : Int) ≤ s := by omega
    have HT := Lib.hid (shift_low a s (by omega))
    clear h
    go_enter Try.func83, Try.ntmps83
    go_wp2_with fail
    refine (len64_int (folded a) _ hb.1 (by omega)).mono ?_
    rintro e w' ⟨rfl, rfl⟩
    go_wp2_with fail
    have g6 : IntKind.i64.wrap (64 - (s : Int)) = 64 - s := by rw [IntKind.wrap_i64]; omega
    have g7 : (0 : Int) ≤ 64 - s := by omega
    have g8 : ¬ (64 - (s : Int)) < 0 := by omega
    go_region_with (fail)
    go_wp2_with fail
    refine bodyPost_ret (v := .tuple #[.agg #[.int .i64 (a / 2 ^ (64 - s)), .int .u64 (IntKind.u64.wrap (IntKind.u64.wrap a * 2 ^ s))], .bool true]) (by simp [results, Try.results83, go_sem]) rfl ⟨?_, ((Below.refl _ _).alloc (Nat.le_refl _) _).drew⟩
    rw [HT.out.1, HT.out.2]
end Go.Proofs.Ytdleeeahonfnkaa
