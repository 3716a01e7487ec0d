/- Package fx: sums of all. -/
import Derived.Test.YtahedampmjfoeaaFxD
namespace Go.Proofs.Ytahedampmjfoeaa
open Go.RowKit

/-- The slice's numbers, in memory. -/
structure Ints (w : World) (b o n : Nat) (xs : Nat → Int) : Prop where
  at_ : ∀ i, i < n → w.cell? ⟨b, o + i, none⟩ = some (.int .i64 (xs i))
def sumS (xs : Nat → Int) : Nat → Int
  | 0 => 0
  | k + 1 => sumS xs k + satv (xs k)
def anyS (xs : Nat → Int) : Nat → Bool
  | 0 => false
  | k + 1 => anyS xs k || sath (xs k)
theorem sumS_bd (xs : Nat → Int) (k : Nat) : -(1152921504606846976 * (k : Int)) ≤ sumS xs k ∧ sumS xs k ≤ 1152921504606846976 * (k : Int) := by
  induction k with
  | zero => simp [sumS]
  | succ k ih =>
    have h1 := satv_lo (xs k)
    have h2 := satv_hi (xs k)
    simp only [sumS]
    omega
theorem sumS_in (xs : Nat → Int) (k : Nat) (hk : k ≤ 9223372036854775807) : InW (sumS xs k) := by
  have := sumS_bd xs k
  exact ⟨by omega, by omega⟩
theorem satv_inW (a : Int) : InW (satv a) := by
  have h1 := satv_lo a
  have h2 := satv_hi a
  exact ⟨by omega, by omega⟩
theorem free_of_block {w : World} {B : Nat} {c : Array Value} {t : TypeId} (h : w.heap[B]? = some (.cells c t (0, 0))) (i : Nat) : w.frozen? ⟨B, i, none⟩ = false := by
  unfold World.frozen?
  rw [h]
  simp
set_option maxHeartbeats 2000000 in
theorem add_fx (p o : Nat) (b ob n c : Nat) (xs : Nat → Int) (h : Bool) (w : World) (f : Fl p o h w) (hn : n ≤ 9223372036854775807) (hb : b < w.heap.size) (hbp : b ≠ p) (hx : Ints w b ob n xs) :
    Calls Try.prog 37 #[.pointer (some ⟨p, o, none⟩), .slice (some ⟨b, ob, none⟩) n c] w fun e w' => e = .returned (.int .i64 (satv (rnd (sumS xs n) 0))) ∧ FlW p o (h || anyS xs n || sath (rnd (sumS xs n) 0)) w w' := by
  go_enter Try.func37, Try.ntmps37
  go_wp2
  go_loopw [10] (fun i wr => ∃ k : Nat, k ≤ n ∧ i = .int .i64 k ∧ FlW p o (h || anyS xs k) w wr ∧ w.heap.size < wr.heap.size ∧ wr.heap[w.heap.size]? = some (.cells #[.int .i64 (wh (sumS xs k)), .int .u64 (wl (sumS xs k))] 27 (0, 0))) (fun i _ => n - (intOf i).toNat)
  case atStart =>
    refine ⟨0, Nat.zero_le _, rfl, flag_is (by simp [anyS]) ((FlW.refl f).alloc _), by simp, heap_alloc_new w _⟩
  case round =>
    obtain ⟨k, hk, rfl, hF, hz, hc⟩ := hrel
    by_cases hlt : k < n
    · have hxk := (hF.cell (b := b) (i := ob + k) hb (.inl hbp)).trans (hx.at_ k hlt)
      have e0 : wr.cell? ⟨w.heap.size, 0, none⟩ = some (.int .i64 (wh (sumS xs k))) := by rw [cell_of_row wr _ _ _ _ _ hc]; rfl
      have e1 : wr.cell? ⟨w.heap.size, 1, none⟩ = some (.int .u64 (wl (sumS xs k))) := by rw [cell_of_row wr _ _ _ _ _ hc]; rfl
      have fr := hF.fl f
      have hRp : w.heap.size ≠ p := by have := f.lt; omega
      have l1 := satv_lo (xs k)
      have l2 := satv_hi (xs k)
      have hltI : (k : Int) < (n : Int) := by omega
      have hI1 := sumS_in xs k (by omega)
      have hI2 := satv_inW (xs k)
      have hI3 : InW (sumS xs k + satv (xs k)) := sumS_in xs (k + 1) (by omega)
      go_wp2_with fail
      go_region_with (first
        | (go_at_call 35; refine (sat_any p o (xs k) _ _ (by first | exact fr | exact fr.drew)).mono ?_; rintro e w4 ⟨rfl, kk⟩; have c0 := (kk.cell hz (.inl hRp)).trans e0; have c1 := (kk.cell hz (.inl hRp)).trans e1; have z4 := Nat.lt_of_lt_of_le hz kk.size; have b4 := (kk.block hz hRp).trans hc)
        | (go_at_call 13; refine (wof_any (satv (xs k)) _ (by omega) (by omega)).mono ?_; rintro e w5 ⟨rfl, hb5⟩; have d0 := (hb5.cell z4).trans c0; have d1 := (hb5.cell z4).trans c1; have z5 := Nat.lt_of_lt_of_le z4 hb5.size; have b5 := (hb5.block _ z4).trans b4)
        | (go_at_call 24; refine (wadd_made _ _ (sumS xs k) (satv (xs k)) _ rfl hI1 hI2 hI3).mono ?_; rintro e w6 ⟨rfl, hb6⟩; have g0 := (hb6.cell z5).trans d0; have g1 := (hb6.cell z5).trans d1; have z6 := Nat.lt_of_lt_of_le z5 hb6.size; have b6 := (hb6.block _ z5).trans b5; have m6 := ((kk.then hb5).then hb6); have r0 : w6.frozen? ⟨w.heap.size, 0, none⟩ = false := free_of_block b6 0; have r1 : w6.frozen? ⟨w.heap.size, 1, none⟩ = false := free_of_block b6 1))
      all_goals
        have HE := Lib.hid (show sumS xs k + satv (xs k) = sumS xs (k + 1) from rfl)
        go_wp2_with fail
        go_roundw
        case rel =>
          refine ⟨k + 1, by omega, by go_num, flag_is (by simp [anyS, Bool.or_assoc]) (((FlW.trans (by first | exact hF.drew | exact hF) m6).other (Nat.le_refl _) _).other (Nat.le_refl _) _), ?_, ?_⟩
          · rw [size_set, size_set]; exact z6
          · exact heap_set2 b6 _ _
        case measure => simp [intOf]; omega
    · have hge : ¬ (k : Int) < (n : Int) := by omega
      obtain rfl : k = n := by omega
      have e0 : wr.cell? ⟨w.heap.size, 0, none⟩ = some (.int .i64 (wh (sumS xs k))) := by rw [cell_of_row wr _ _ _ _ _ hc]; rfl
      have e1 : wr.cell? ⟨w.heap.size, 1, none⟩ = some (.int .u64 (wl (sumS xs k))) := by rw [cell_of_row wr _ _ _ _ _ hc]; rfl
      have fr := hF.fl f
      go_wp2_with fail
      refine (round_fx p o (sumS xs k) 0 _ _ fr (sumS_in xs k hn) (by omega)).mono ?_
      rintro e w7 ⟨rfl, kk⟩
      go_wp2_with fail
      go_ret
      exact ⟨rfl, hF.trans kk⟩
end Go.Proofs.Ytahedampmjfoeaa
