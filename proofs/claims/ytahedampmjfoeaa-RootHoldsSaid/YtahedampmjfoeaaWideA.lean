/- Package wide: a number made wide, its other sign, its size. -/
import Derived.Test.YtahedampmjfoeaaBits
import Derived.Test.YtahedampmjfoeaaWnum
namespace Go.Proofs.Ytahedampmjfoeaa
open Go.RowKit

theorem wof_any (a : Int) (w : World) (h1 : -9223372036854775808 ≤ a) (h2 : a ≤ 9223372036854775807) :
    Calls Try.prog 13 #[.int .i64 a] w fun e w' => e = .returned (Wv a) ∧ Below w.heap.size w w' := by
  go_enter Try.func13, Try.ntmps13
  go_wp2
  refine bodyPost_ret (v := Value.agg #[.int .i64 (a / 9223372036854775808), .int .u64 (IntKind.u64.wrap a)]) (by simp [results, Try.results13, go_sem]) rfl ⟨ret_val (agg2 ?_ ?_), (Below.refl _ _).alloc (Nat.le_refl _) _⟩
  · unfold wh; omega
  · unfold wl; exact IntKind.wrap_u64 a

theorem negate_any (v : Int) (w : World) (h : InW v) :
    Calls Try.prog 65 #[Wv v] w fun e w' => e = .returned (Wv (nneg v)) ∧ Below w.heap.size w w' := by
  have l1 := wh_lo h
  have l2 := wh_hi h
  have l3 := wl_lo v
  have l4 := wl_hi v
  have hs := fun w => sub64_run (wl v) w l3 l4
  go_enter Try.func65, Try.ntmps65
  go_wp2
  refine bodyPost_ret (v := Value.agg #[.int .i64 (wrap64 (wrap64 (-wh v) - wrap64 (subBo (wl v)))), .int .u64 (subLo (wl v))]) (by simp [results, Try.results65, go_sem]) rfl ⟨ret_val (agg2 (neg_hi h) (neg_lo v)), ((Below.refl _ _).alloc (Nat.le_refl _) _).alloc (by simp) _⟩

set_option maxHeartbeats 1000000 in
theorem wsize_any (v : Int) (w : World) (h : InW v) :
    Calls Try.prog 69 #[Wv v] w fun e w' => e = .returned (.tuple #[.int .u64 (wh v.natAbs), .int .u64 (wl v.natAbs)]) ∧ Below w.heap.size w w' := by
  by_cases hn : v < 0
  · have hn' : wh v < 0 := (wh_neg v).2 hn
    have HS := Lib.hid (size_neg h hn)
    clear hn
    go_enter Try.func69, Try.ntmps69
    go_wp2_with fail
    generalize hW : World.alloc w _ = W
    have e0 : W.heap[w.heap.size]? = some (.cells #[.int .i64 (wh v), .int .u64 (wl v)] 27 (0, 0)) := by subst hW; exact heap_alloc_new w _
    have hB : Below w.heap.size w W := by subst hW; exact (Below.refl _ _).alloc (Nat.le_refl _) _
    have hs : w.heap.size < W.heap.size := by subst hW; simp
    clear hW
    refine (negate_any v _ h).mono ?_
    rintro e w1 ⟨rfl, hb⟩
    have e1 := (hb.block _ hs).trans e0
    have a0 : w1.cell? ⟨w.heap.size, 0, none⟩ = some (.int .i64 (wh v)) := by rw [cell_of_row w1 _ _ _ _ _ e1]; rfl
    have a1 : w1.cell? ⟨w.heap.size, 1, none⟩ = some (.int .u64 (wl v)) := by rw [cell_of_row w1 _ _ _ _ _ e1]; rfl
    have g : ∀ o, w1.frozen? ⟨w.heap.size, o, none⟩ = false := fun o => by simp [World.frozen?, e1]
    have HB := hB.trans (hb.mono (Nat.le_of_lt hs))
    clear e0 e1 hb hB hs
    go_wp2
    go_quiet (fail)
    go_wp2
    go_ret2
    exact ⟨tuple2 HS.out.1 HS.out.2, below_drewN ((HB.setCell (Nat.le_refl _) _).setCell (Nat.le_refl _) _) _⟩
  · have hn' : ¬ wh v < 0 := fun x => hn ((wh_neg v).1 x)
    have HS := Lib.hid (size_pos h hn)
    clear hn
    go_enter Try.func69, Try.ntmps69
    go_wp2
    go_quiet (fail)
    go_wp2
    go_ret2
    exact ⟨tuple2 HS.out.1 HS.out.2, below_drewN ((Below.refl _ _).alloc (Nat.le_refl _) _) _⟩

set_option maxHeartbeats 1000000 in
theorem signed_any (n : Nat) (b : Bool) (w : World) (hn : n < 18446744073709551616) :
    Calls Try.prog 72 #[.int .u64 n, .bool b] w fun e w' => e = .returned (.tuple #[.int .i64 (sval (withSign b n)), .bool (sok (withSign b n))]) ∧ w = w' := by
  cases b
  · by_cases h1 : n ≤ 9223372036854775807
    · have h2 : (n : Int) ≤ 9223372036854775807 := by omega
      have HS := Lib.hid (sok_yes (z := withSign false n) (by unfold withSign; simp <;> omega) (by unfold withSign; simp <;> omega))
      go_enter Try.func72, Try.ntmps72
      go_wp2
      go_ret2
      exact ⟨tupleb ((by unfold withSign; simp : (n : Int) = withSign false n).trans HS.out.2) HS.out.1, rfl⟩
    · have h2 : ¬ (n : Int) ≤ 9223372036854775807 := by omega
      have HS := Lib.hid (sok_no (z := withSign false n) (.inr (by unfold withSign; simp <;> omega)))
      go_enter Try.func72, Try.ntmps72
      go_wp2
      go_ret2
      exact ⟨tupleb HS.out.2 HS.out.1, rfl⟩
  · by_cases h1 : n ≤ 9223372036854775808
    · have h2 : (n : Int) ≤ 9223372036854775808 := by omega
      have HS := Lib.hid (sok_yes (z := withSign true n) (by unfold withSign; simp <;> omega) (by unfold withSign; simp <;> omega))
      go_enter Try.func72, Try.ntmps72
      go_wp2
      go_ret2
      refine ⟨tupleb (Eq.trans ?_ HS.out.2) HS.out.1, rfl⟩
      unfold withSign wrap64
      simp
      omega
    · have h2 : ¬ (n : Int) ≤ 9223372036854775808 := by omega
      have HS := Lib.hid (sok_no (z := withSign true n) (.inl (by unfold withSign; simp <;> omega)))
      go_enter Try.func72, Try.ntmps72
      go_wp2
      go_ret2
      exact ⟨tupleb HS.out.2 HS.out.1, rfl⟩
end Go.Proofs.Ytahedampmjfoeaa
