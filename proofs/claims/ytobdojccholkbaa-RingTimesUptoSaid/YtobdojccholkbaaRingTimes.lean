/- Proved here: what comes out at a time lies above the horizon before and at most at the new one; the horizon never falls; a sample at the horizon is late; the counts; for all lists that the statement's bound lets in. -/
import Derived.Test.YtobdojccholkbaaRingTimesW
import Derived.JoinedCond
namespace Go.Proofs.Ytobdojccholkbaa.ringTimes
open Go.ChangeShapes Go.WideShapes Go.ChangeAt Go.RowKit Go.Joins
set_option maxRecDepth 100000 in
theorem lifted (os : Os) (started : os.Started) (H : Type) (enc : TypeId × Value → H) (I : Stop.Interp) :
    ReturnsInHanded {} Try.checked os 7 .any ((Rows.OpenSpec.upto Rows.ringTimesSpec).pre6 enc Try.prog Try.f7 Rows.ringTimesUptoRow.domain false) (((Rows.OpenSpec.upto Rows.ringTimesSpec).at I).post enc Try.prog Try.f7 false true false false) := by
  refine returnsInHanded_of_cond (C := Try.checked) (s := Rows.OpenSpec.upto Rows.ringTimesSpec) (k := Rows.uptoSmall) rfl own_any started (by kernel_rfl) Try.func7
    (OpenSpec.witness (enc := enc) (C := Try.checked) (s := Rows.OpenSpec.upto Rows.ringTimesSpec) (k := Rows.uptoSmall) rfl false ⟨#[], #[.slice none 0 0, .slice none 0 0], []⟩ 8 (by kernel_rfl) (by kernel_rfl) (by kernel_rfl)
      (x := ([.nil, .nil], [], [])) (by kernel_rfl) rfl (by kernel_rfl)) ?_
  intro W base args ds gs before hval0 hW _ _ _
  have hval : ∀ (j : Nat) t v, Try.f7.params[j]? = some t → args[j]? = some v → Value.okWide Try.prog W .any base t v := hval0
  have hW' := hW
  obtain ⟨p, q, hA0, hV, rfl, hfz, hnd⟩ := hW
  have hA : DataW.TrodAll enc Try.prog W 0 (fun _ => true) true Try.f7.params.toList args.toList ds p := hA0
  rw [Try.params7] at hA hval
  obtain ⟨v0, vs0, d0, ds0, p0, q0, hargs, rfl, rfl, h0, r0⟩ := trodAll_cons hA
  obtain ⟨v1, vs1, d1, ds1, p1, q1, rfl, rfl, rfl, h1, r1⟩ := trodAll_cons r0
  obtain ⟨rfl, rfl, rfl⟩ := trodAll_nil r1
  obtain rfl : args = #[v0, v1] := by cases args; simp_all
  obtain ⟨rfl, rfl⟩ := trodVars_none hV
  obtain ⟨ad0, n0, c0, l0, rfl, hl0, hr0⟩ := Rg.open_argR (k := 9) Try.underlying35 (by kernel_rfl) (by kernel_rfl) (by omega) (hval 0 35 v0 rfl rfl) h0
  obtain ⟨ad1, n1, c1, l1, rfl, hl1⟩ := Rg.open_arg (k := 1) Try.underlying56 (by kernel_rfl) (by kernel_rfl) (by omega) (hval 1 56 v1 rfl rfl) h1
  clear hA0 hval0
  refine (Rg.times_walk ad0 n0 c0 l0 ad1 n1 c1 l1 W hl0 hr0 hl1).mono fun e W' ⟨he, hg⟩ => ?_
  subst he
  exact ⟨_, rfl, law_post laidOut_any (by kernel_rfl) rfl (by kernel_rfl) Try.underlying4 rfl hW' hg⟩
theorem over : Rows.ringTimesUptoRow.holds Try.pinned (Rows.OpenSpec.upto Rows.ringTimesSpec) :=
  OpenClaim.holds_of_cond 7 Try.f7 rfl rfl rfl rfl rfl rfl rfl ⟨rfl, rfl, rfl, rfl, rfl⟩ rfl rfl rfl rfl rfl (by kernel_rfl) Try.func7 (by kernel_rfl)
    (of_decide_eq_true (by kernel_rfl)) (by unfold Func.isWrapper; first | (rw [if_pos (by decide +kernel)]; kernel_rfl) | (rw [if_neg (by decide +kernel)]; exact ⟨rfl, rfl⟩))
    (fun os started H enc _ I => lifted os started H enc I)
/-- The statement. -/
theorem proved : Rows.RingTimesUptoSaid := over
#print axioms proved
end Go.Proofs.Ytobdojccholkbaa.ringTimes
