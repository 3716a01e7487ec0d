/- Package wide: the root, rounded. -/
import Derived.Test.YtahedampmjfoeaaWideH
namespace Go.Proofs.Ytahedampmjfoeaa
open Go.RowKit

def rootN (n : Nat) : Nat := isq n + if isq n < n - isq n * isq n then 1 else 0
theorem wcmp_at (x y : Int) (V : Value) (w : World) (hV : V = Wv y) :
    Calls Try.prog 22 #[Wv x, V] w fun e w' => e = .returned (.int .i64 (cmpI x y)) ∧ Below w.heap.size w w' := by
  subst hV; exact wcmp_any x y w
theorem top_val : Value.agg #[.int .i64 4611686018427387903, .int .u64 9223372036854775808] = Wv 85070591730234615856620279821087277056 := agg2 (by unfold wh; omega) (by unfold wl; omega)
theorem wroot_neg (v : Int) (w : World) (h : v < 0) :
    Calls Try.prog 57 #[Wv v] w fun e w' => e = .returned (.tuple #[.int .i64 0, .bool false]) ∧ Below w.heap.size w w' := by
  have t1 : wh v < 0 := (wh_neg v).2 h
  clear h
  go_enter Try.func57, Try.ntmps57
  go_wp2_with fail
  go_ret2
  exact ⟨rfl, (Below.refl _ _).alloc (Nat.le_refl _) _⟩
theorem cmp_hi (v : Int) (h : 85070591730234615856620279821087277056 < v) : (0 : Int) < cmpI v 85070591730234615856620279821087277056 := by unfold cmpI; rw [if_neg (by omega), if_neg (by omega)]; omega
theorem cmp_lo (v : Int) (h : v ≤ 85070591730234615856620279821087277056) : ¬ (0 : Int) < cmpI v 85070591730234615856620279821087277056 := by
  unfold cmpI
  split
  · omega
  · rw [if_pos (by omega)]; omega
theorem wroot_big (v : Int) (w : World) (h0 : 0 ≤ v) (h : 85070591730234615856620279821087277056 < v) :
    Calls Try.prog 57 #[Wv v] w fun e w' => e = .returned (.tuple #[.int .i64 0, .bool false]) ∧ Below w.heap.size w w' := by
  have t1 : ¬ wh v < 0 := fun x => by have := (wh_neg v).1 x; omega
  have t2 := cmp_hi v h
  clear h h0
  go_enter Try.func57, Try.ntmps57
  go_wp2_with fail
  generalize hW : World.alloc w _ = W
  have hB : Below w.heap.size w W := by subst hW; exact (Below.refl _ _).alloc (Nat.le_refl _) _
  have hw : w.heap.size < W.heap.size := by subst hW; simp
  clear hW
  refine (wcmp_at v _ _ _ top_val).mono ?_
  rintro e w1 ⟨rfl, hb⟩
  have hB1 := hB.trans (hb.mono (Nat.le_of_lt hw))
  clear hb hB hw
  go_wp2_with fail
  go_ret2
  exact ⟨rfl, hB1⟩
theorem floor_any (h l : Int) (n : Nat) (w : World) (hn : Lt126 n) (hh : h = (n / 18446744073709551616 : Nat)) (hl : l = (n % 18446744073709551616 : Nat)) :
    Calls Try.prog 79 #[.agg #[.int .i64 h, .int .u64 l]] w fun e w' => e = .returned (.int .u64 (isq n : Nat)) ∧ Below w.heap.size w w' := by
  rcases Nat.eq_zero_or_pos n with h0 | h0
  · subst h0
    exact (floor_zero h l w (by omega) (by omega)).mono fun e w' ⟨he, hb⟩ => ⟨he, hb⟩
  · exact floor_pos h l n w hn h0 hh hl
theorem isq_lt (n : Nat) (h : n ≤ 85070591730234615856620279821087277056) : isq n ≤ 9223372036854775807 ∧ (isq n < n - isq n * isq n → isq n + 1 ≤ 9223372036854775807) := by
  obtain ⟨g1, g2⟩ := isq_spec n
  have h1 : isq n ≤ 9223372036854775807 := isq_le (by omega)
  refine ⟨h1, fun h2 => ?_⟩
  rcases Nat.lt_or_ge (isq n) 9223372036854775807 with h3 | h3
  · exact h3
  · have h4 : isq n = 9223372036854775807 := by omega
    rw [h4] at h2
    omega
theorem low_diff (v : Int) (n : Nat) (hv : v = n) : IntKind.u64.wrap (wl v - IntKind.u64.wrap ((isq n : Int) * isq n)) = ((n - isq n * isq n : Nat) : Int) ∨ 85070591730234615856620279821087277056 < n := by
  by_cases h : n ≤ 85070591730234615856620279821087277056
  · left
    obtain ⟨g1, g2⟩ := isq_spec n
    have g3 := (isq_lt n h).1
    have e : ((isq n : Int) * isq n) = ((isq n * isq n : Nat) : Int) := by simp
    have e2 : (isq n + 1) * (isq n + 1) = isq n * isq n + 2 * isq n + 1 := by grind
    rw [e, hv]
    generalize isq n * isq n = X at *
    simp only [IntKind.wrap_u64]
    unfold wl
    omega
  · right; omega
set_option maxHeartbeats 2000000 in
theorem wroot_any (v : Int) (w : World) (h0 : 0 ≤ v) (h : v ≤ 85070591730234615856620279821087277056) :
    Calls Try.prog 57 #[Wv v] w fun e w' => e = .returned (.tuple #[.int .i64 (rootN v.toNat : Nat), .bool true]) ∧ Below w.heap.size w w' := by
  have t1 : ¬ wh v < 0 := fun x => by have := (wh_neg v).1 x; omega
  have t2 := cmp_lo v h
  have hn : Lt126 v.toNat := ⟨by omega⟩
  have HH := Lib.hid (show wh v = (v.toNat / 18446744073709551616 : Nat) by unfold wh; omega)
  have HL := Lib.hid (show wl v = (v.toNat % 18446744073709551616 : Nat) by unfold wl; omega)
  have HI := isq_lt v.toNat (by omega)
  have HD := Lib.hid ((low_diff v v.toNat (by omega)).resolve_right (by omega))
  have HR := Lib.hid (show rootN v.toNat = isq v.toNat + if isq v.toNat < v.toNat - isq v.toNat * isq v.toNat then 1 else 0 from rfl)
  have H1 := Lib.hid HI.1
  have H2 := Lib.hid HI.2
  have r1 : (isq v.toNat : Int) ≤ 9223372036854775807 := by have := HI.1; omega
  clear h HI
  generalize rootN v.toNat = RN at *
  generalize hN : v.toNat = n at *
  clear hN
  go_enter Try.func57, Try.ntmps57
  go_wp2_with fail
  generalize hW : World.alloc w _ = W
  have e0 : W.heap[w.heap.size]? = some (.cells #[.int .i64 (wh v), .int .u64 (wl v)] 27 (0, 0)) := by subst hW; exact heap_alloc_new w _
  have hB : Below w.heap.size w W := by subst hW; exact (Below.refl _ _).alloc (Nat.le_refl _) _
  have hw : w.heap.size < W.heap.size := by subst hW; simp
  clear hW
  refine (wcmp_at v _ _ _ top_val).mono ?_
  rintro e w1 ⟨rfl, hb⟩
  have e1 := (hb.block _ hw).trans e0
  have hB1 := hB.trans (hb.mono (Nat.le_of_lt hw))
  have hw1 := Nat.lt_of_lt_of_le hw hb.size
  clear hb hB hw e0
  have a0 : w1.cell? ⟨w.heap.size, 0, none⟩ = some (.int .i64 (wh v)) := by rw [cell_of_row w1 _ _ _ _ _ e1]; rfl
  have a1 : w1.cell? ⟨w.heap.size, 1, none⟩ = some (.int .u64 (wl v)) := by rw [cell_of_row w1 _ _ _ _ _ e1]; rfl
  have E1 := Lib.hid e1
  clear e1
  go_wp2_with fail
  refine (floor_any (wh v) (wl v) n _ hn HH.out HL.out).mono ?_
  rintro e w2 ⟨rfl, hb⟩
  have e2 := (hb.block _ hw1).trans E1.out
  have hB2 := hB1.trans (hb.mono (Nat.le_of_lt hw1))
  clear hb hB1 hw1 a0 a1 E1
  have a0 : w2.cell? ⟨w.heap.size, 0, none⟩ = some (.int .i64 (wh v)) := by rw [cell_of_row w2 _ _ _ _ _ e2]; rfl
  have a1 : w2.cell? ⟨w.heap.size, 1, none⟩ = some (.int .u64 (wl v)) := by rw [cell_of_row w2 _ _ _ _ _ e2]; rfl
  clear e2 hn
  generalize hK : isq n = k at *
  have k0 : (0 : Int) ≤ k := by omega
  by_cases hd : k < n - k * k
  · have hd' : (k : Int) < IntKind.u64.wrap (wl v - IntKind.u64.wrap ((k : Int) * k)) := by rw [HD.out]; omega
    have r3 : (k : Int) + 1 ≤ 9223372036854775807 := by have := H2.out hd; omega
    have HE := Lib.hid (show (k : Int) + 1 = RN by rw [HR.out, if_pos hd]; omega)
    clear hd hK H1 H2 HR HH HL HD
    go_wp2_with fail
    go_ret2
    exact ⟨tupleb HE.out rfl, hB2⟩
  · have hd' : ¬ (k : Int) < IntKind.u64.wrap (wl v - IntKind.u64.wrap ((k : Int) * k)) := by rw [HD.out]; omega
    have HE := Lib.hid (show (k : Int) = RN by rw [HR.out, if_neg hd]; omega)
    clear hd hK H1 H2 HR HH HL HD
    go_wp2_with fail
    go_ret2
    exact ⟨tupleb HE.out rfl, hB2⟩
end Go.Proofs.Ytahedampmjfoeaa
