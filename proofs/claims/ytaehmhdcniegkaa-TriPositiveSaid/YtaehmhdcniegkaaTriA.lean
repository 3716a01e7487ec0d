/- Package tri and the document's own: where the numbers of U stand, and what they are. -/
import Derived.Test.YtaehmhdcniegkaaTriN
import Derived.Deep.QuietTactic
import Derived.BigQuiet
namespace Go.Proofs.Ytaehmhdcniegkaa
open Go.RowKit

theorem exists_any (i : Int) (w : World) : Calls Try.prog 167 #[.int .i64 i] w fun e w' => e = .returned (.bool (inN i)) ∧ w = w' := by
  by_cases h1 : 0 ≤ i
  · by_cases h2 : i < 24
    · have HV := Lib.hid ((inN_iff i).2 ⟨h1, h2⟩)
      go_enter Try.func167, Try.ntmps167
      go_wp2
      go_ret
      exact ⟨ret_bool HV.out.symm, rfl⟩
    · have HV := Lib.hid ((inN_no i).2 (by omega))
      go_enter Try.func167, Try.ntmps167
      go_wp2
      go_ret
      exact ⟨ret_bool HV.out.symm, rfl⟩
  · have HV := Lib.hid ((inN_no i).2 (by omega))
    go_enter Try.func167, Try.ntmps167
    go_wp2
    go_ret
    exact ⟨ret_bool HV.out.symm, rfl⟩
theorem exists_is (i : Int) (b : Bool) (hb : inN i = b) (w : World) : Calls Try.prog 167 #[.int .i64 i] w fun e w' => e = .returned (.bool b) ∧ w = w' := by
  subst hb; exact exists_any i w
theorem above_is (i j : Int) (b : Bool) (hb : aboveB i j = b) (w : World) : Calls Try.prog 112 #[.int .i64 i, .int .i64 j] w fun e w' => e = .returned (.bool b) ∧ w = w' := by
  cases hi : inN i
  · have HV := Lib.hid (show aboveB i j = false by unfold aboveB; rw [hi]; rfl)
    have HI := Lib.hid (exists_is i false hi)
    have HB := Lib.hid hb
    clear hi hb
    go_enter Try.func112, Try.ntmps112
    go_wp2_with (refine (HI.out _).mono ?_; rintro e w' ⟨rfl, rfl⟩)
    go_ret
    exact ⟨ret_bool (HV.out.symm.trans HB.out), rfl⟩
  · cases hj : inN j
    · have HV := Lib.hid (show aboveB i j = false by unfold aboveB; rw [hi, hj]; rfl)
      have HI := Lib.hid (exists_is i true hi)
      have HJ := Lib.hid (exists_is j false hj)
      have HB := Lib.hid hb
      clear hi hj hb
      go_enter Try.func112, Try.ntmps112
      go_wp2_with fail
      refine (HI.out _).mono ?_
      rintro e w' ⟨rfl, rfl⟩
      go_wp2_with fail
      refine (HJ.out _).mono ?_
      rintro e w' ⟨rfl, rfl⟩
      go_wp2_with fail
      go_ret
      exact ⟨ret_bool (HV.out.symm.trans HB.out), rfl⟩
    · have HI := Lib.hid (exists_is i true hi)
      have HJ := Lib.hid (exists_is j true hj)
      have HB := Lib.hid hb
      have HV := Lib.hid (show aboveB i j = decide (i < j) by unfold aboveB; rw [hi, hj]; rfl)
      clear hi hj hb
      by_cases hlt : i < j
      · go_enter Try.func112, Try.ntmps112
        go_wp2_with fail
        refine (HI.out _).mono ?_
        rintro e w' ⟨rfl, rfl⟩
        go_wp2_with fail
        refine (HJ.out _).mono ?_
        rintro e w' ⟨rfl, rfl⟩
        go_wp2_with fail
        go_ret
        exact ⟨ret_bool ((HV.out.trans (decide_eq_true hlt)).symm.trans HB.out), rfl⟩
      · go_enter Try.func112, Try.ntmps112
        go_wp2_with fail
        refine (HI.out _).mono ?_
        rintro e w' ⟨rfl, rfl⟩
        go_wp2_with fail
        refine (HJ.out _).mono ?_
        rintro e w' ⟨rfl, rfl⟩
        go_wp2_with fail
        go_ret
        exact ⟨ret_bool (HV.out.symm.trans HB.out), rfl⟩
theorem place_is (i j : Int) (w : World) (h0 : 0 ≤ i) (h1 : i < j) (h2 : j < 24) : Calls Try.prog 113 #[.int .i64 i, .int .i64 j] w fun e w' => e = .returned (.int .i64 (plc i j)) ∧ w = w' := by
  obtain ⟨k0, k1, k2, k3⟩ := plc_bd h0 h1 h2
  have HP := Lib.hid (show plc i j = j * (j - 1) / 2 + i from rfl)
  have e1 : IntKind.i64.wrap (j * (j - 1)) = j * (j - 1) := i64_id _ (by omega) (by omega)
  have e2 : (j * (j - 1)).tdiv 2 = j * (j - 1) / 2 := Int.tdiv_eq_ediv_of_nonneg k0
  go_enter Try.func113, Try.ntmps113
  go_wp2
  go_ret
  exact ⟨ret_int (by rw [HP.out]), rfl⟩
theorem rplace_is (i j : Int) (w : World) (h0 : 0 ≤ i) (h1 : i < j) (h2 : j < 24) : Calls Try.prog 114 #[.int .i64 i, .int .i64 j] w fun e w' => e = .returned (.int .i64 (plc i j)) ∧ w = w' := by
  obtain ⟨k0, k1, k2, k3⟩ := plc_bd h0 h1 h2
  have HP := Lib.hid (show plc i j = j * (j - 1) / 2 + i from rfl)
  have e1 : IntKind.i64.wrap (j * (j - 1)) = j * (j - 1) := i64_id _ (by omega) (by omega)
  have e2 : (j * (j - 1)).tdiv 2 = j * (j - 1) / 2 := Int.tdiv_eq_ediv_of_nonneg k0
  go_enter Try.func114, Try.ntmps114
  go_wp2
  go_ret
  exact ⟨ret_int (by rw [HP.out]), rfl⟩
end Go.Proofs.Ytaehmhdcniegkaa
