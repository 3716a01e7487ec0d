/- Package tri and the document's own: a number of U, read through a pointer. -/
import Derived.Test.YtaehmhdcniegkaaTriA
namespace Go.Proofs.Ytaehmhdcniegkaa
open Go.RowKit

theorem below_drewN {w : World} (n N : Nat) : Below N w (w.drewN n) := ⟨rfl, rfl, rfl, Nat.le_refl _, fun _ _ => rfl⟩
theorem same_turned {P : Program} {k : FuncId} {args : Array Value} {v : Value} (h : ∀ w, Calls P k args w fun e w' => e = .returned v ∧ w = w') (w : World) : Calls P k args w fun e w' => e = .returned v ∧ w' = w :=
  (h w).mono fun _ _ ⟨h1, h2⟩ => ⟨h1, h2.symm⟩
theorem uF_in {f : Nat → Int} {i j : Int} (h0 : 0 ≤ i) (h1 : i < j) (h2 : j < 24) : uF f i j = f (plc i j).toNat := by
  unfold uF; rw [(aboveB_iff i j).2 ⟨h0, h1, h2⟩]; rfl
theorem uF_one {f : Nat → Int} {i j : Int} (h0 : 0 ≤ i) (h1 : i < 24) (h2 : i = j) : uF f i j = 1073741824 := by
  subst h2
  unfold uF
  rw [(aboveB_no i i).2 (by omega), (inN_iff i).2 ⟨h0, h1⟩, decide_eq_true rfl]; rfl
theorem uF_no {f : Nat → Int} {i j : Int} (h : i < 0 ∨ j < i ∨ 23 < j) : uF f i j = 0 := by
  unfold uF
  by_cases e : i = j
  · rw [(aboveB_no i j).2 (by omega), (inN_no i).2 (by omega), decide_eq_true e]; rfl
  · rw [(aboveB_no i j).2 (by omega), decide_eq_false e]; rfl
set_option maxHeartbeats 1000000 in
theorem upper_any (b : Nat) (f : Nat → Int) (i j : Int) (w : World) (hx : Ints w b 0 300 f) :
    Calls Try.prog 111 #[.pointer (some ⟨b, 0, none⟩), .int .i64 i, .int .i64 j] w fun e w' => e = .returned (.int .i64 (uF f i j)) ∧ Below w.heap.size w w' := by
  by_cases h : 0 ≤ i ∧ i < j ∧ j < 24
  · obtain ⟨h0, h1, h2⟩ := h
    obtain ⟨k0, k1, k2, k3⟩ := plc_bd h0 h1 h2
    have HU := Lib.hid (uF_in (f := f) h0 h1 h2)
    have HA := Lib.hid (above_is i j true ((aboveB_iff i j).2 ⟨h0, h1, h2⟩))
    have HP := Lib.hid (fun w => place_is i j w h0 h1 h2)
    have hc := hx.at_ (plc i j).toNat (by omega)
    clear k0 k1
    generalize hq : plc i j = q at *
    clear hq
    obtain ⟨n, rfl⟩ := Int.eq_ofNat_of_zero_le k2
    simp only [Int.toNat_natCast, Nat.zero_add] at hc
    have hn : n < 276 := by omega
    go_enter Try.func111, Try.ntmps111
    go_wp2_with fail
    refine (HA.out _).mono ?_
    rintro e w' ⟨rfl, rfl⟩
    go_wp2_with fail
    go_quiet ((go_at_call 113; exact Calls.quiet_of_same (same_turned HP.out _)))
    go_wp2_with fail
    go_ret
    exact ⟨ret_int HU.out.symm, below_drewN _ _⟩
  · have HA := Lib.hid (above_is i j false ((aboveB_no i j).2 (by omega)))
    by_cases h1 : i = j
    · subst h1
      by_cases h2 : 0 ≤ i ∧ i < 24
      · have HU := Lib.hid (uF_one (f := f) h2.1 h2.2 rfl)
        have HI := Lib.hid (exists_is i true ((inN_iff i).2 h2))
        clear h h2
        go_enter Try.func111, Try.ntmps111
        go_wp2_with fail
        refine (HA.out _).mono ?_
        rintro e w' ⟨rfl, rfl⟩
        go_wp2_with fail
        refine (HI.out _).mono ?_
        rintro e w' ⟨rfl, rfl⟩
        go_wp2_with fail
        go_ret
        exact ⟨ret_int HU.out.symm, Below.refl _ _⟩
      · have HU := Lib.hid (uF_no (f := f) (show i < 0 ∨ i < i ∨ 23 < i by omega))
        have HI := Lib.hid (exists_is i false ((inN_no i).2 (by omega)))
        clear h h2
        go_enter Try.func111, Try.ntmps111
        go_wp2_with fail
        refine (HA.out _).mono ?_
        rintro e w' ⟨rfl, rfl⟩
        go_wp2_with fail
        refine (HI.out _).mono ?_
        rintro e w' ⟨rfl, rfl⟩
        go_wp2_with fail
        go_ret
        exact ⟨ret_int HU.out.symm, Below.refl _ _⟩
    · have HU := Lib.hid (uF_no (f := f) (show i < 0 ∨ j < i ∨ 23 < j by omega))
      have hne : (i == j) = false := by simpa using h1
      clear h
      go_enter Try.func111, Try.ntmps111
      go_wp2_with fail
      refine (HA.out _).mono ?_
      rintro e w' ⟨rfl, rfl⟩
      go_wp2_with fail
      go_ret
      exact ⟨ret_int HU.out.symm, Below.refl _ _⟩
set_option maxHeartbeats 1000000 in
theorem ru_any (b bo : Nat) (f : Nat → Int) (i j : Int) (w : World) (hx : Ints w b bo 300 f) :
    Calls Try.prog 20 #[.pointer (some ⟨b, bo, none⟩), .int .i64 i, .int .i64 j] w fun e w' => e = .returned (.int .i64 (uF f i j)) ∧ Below w.heap.size w w' := by
  by_cases h : i < 0 ∨ j < 0 ∨ 24 ≤ i ∨ 24 ≤ j ∨ j < i
  · have HU := Lib.hid (uF_no (f := f) (show i < 0 ∨ j < i ∨ 23 < j by omega))
    rcases (show (i < 0) ∨ (¬ i < 0 ∧ j < 0) ∨ (¬ i < 0 ∧ ¬ j < 0 ∧ 24 ≤ i) ∨ (¬ i < 0 ∧ ¬ j < 0 ∧ ¬ 24 ≤ i ∧ 24 ≤ j) ∨ (¬ i < 0 ∧ ¬ j < 0 ∧ ¬ 24 ≤ i ∧ ¬ 24 ≤ j ∧ j < i) by omega) with g1 | ⟨g1, g2⟩ | ⟨g1, g2, g3⟩ | ⟨g1, g2, g3, g4⟩ | ⟨g1, g2, g3, g4, g5⟩
    all_goals
      clear h
      go_enter Try.func20, Try.ntmps20
      go_wp2_with fail
      go_ret
      exact ⟨ret_int HU.out.symm, Below.refl _ _⟩
  · obtain ⟨g1, g2, g3, g4, g5⟩ : ¬ i < 0 ∧ ¬ j < 0 ∧ ¬ 24 ≤ i ∧ ¬ 24 ≤ j ∧ ¬ j < i := by omega
    clear h
    by_cases h1 : i = j
    · subst h1
      have HU := Lib.hid (uF_one (f := f) (show 0 ≤ i by omega) (show i < 24 by omega) rfl)
      go_enter Try.func20, Try.ntmps20
      go_wp2_with fail
      go_ret
      exact ⟨ret_int HU.out.symm, Below.refl _ _⟩
    · have hne : (i == j) = false := by simpa using h1
      have h0 : 0 ≤ i := by omega
      have h3 : i < j := by omega
      have h2 : j < 24 := by omega
      obtain ⟨k0, k1, k2, k3⟩ := plc_bd h0 h3 h2
      have HU := Lib.hid (uF_in (f := f) h0 h3 h2)
      have HP := Lib.hid (fun w => rplace_is i j w h0 h3 h2)
      have hc := hx.at_ (plc i j).toNat (by omega)
      clear k0 k1
      generalize hq : plc i j = q at *
      clear hq
      obtain ⟨n, rfl⟩ := Int.eq_ofNat_of_zero_le k2
      simp only [Int.toNat_natCast] at hc
      have hn : n < 276 := by omega
      go_enter Try.func20, Try.ntmps20
      go_wp2_with fail
      go_quiet ((go_at_call 114; exact Calls.quiet_of_same (same_turned HP.out _)))
      go_wp2_with fail
      go_ret
      exact ⟨ret_int HU.out.symm, below_drewN _ _⟩
end Go.Proofs.Ytaehmhdcniegkaa
