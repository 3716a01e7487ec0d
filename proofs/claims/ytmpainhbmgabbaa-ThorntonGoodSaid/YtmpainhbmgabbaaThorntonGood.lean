/- Proved here: what a step of time gives is good, and noise alone is a step that changes nothing else; for at most 40 numbers of noise, else nothing is asked; no condition. -/
import Derived.Test.YtmpainhbmgabbaaSxI2
import Derived.Test.YtmpainhbmgabbaaThorntonGoodL
namespace Go.Proofs.Ytmpainhbmgabbaa.thorntonGood
open Go.ChangeShapes Go.WideShapes Go.ChangeAt Go.RowKit Go.Joins
set_option maxRecDepth 100000 in
theorem lifted (os : Os) (started : os.Started) (H : Type) (enc : TypeId × Value → H) :
    ReturnsInHanded {} Try.checked os 13 .any (Rows.thorntonGoodSpec.pre6 enc Try.prog Try.f13 Rows.thorntonGoodRow.domain false) (Rows.thorntonGoodSpec.post enc Try.prog Try.f13 false true false false) := by
  refine returnsInHanded_of_change (C := Try.checked) own_any started (by kernel_rfl) Try.func13
    (ChangeSpec.witness6 (enc := enc) (C := Try.checked) false ⟨#[], #[.agg (Array.replicate 300 (.int .i64 0)), .agg (Array.replicate 576 (.int .i64 0)), .agg #[.int .i64 0, .int .i64 0, .int .i64 0, .int .i64 0, .int .i64 0, .int .i64 0, .int .i64 0, .int .i64 0, .int .i64 0, .int .i64 0, .int .i64 0, .int .i64 0, .int .i64 0, .int .i64 0, .int .i64 0, .int .i64 0, .int .i64 0, .int .i64 0, .int .i64 0, .int .i64 0, .int .i64 0, .int .i64 0, .int .i64 0, .int .i64 0], .slice none 0 0], []⟩ 8 (by kernel_rfl) (by kernel_rfl) (by kernel_rfl) (by kernel_rfl)) ?_
  intro W base args ds gs before hval0 hW hcnd _
  have hval : ∀ (j : Nat) t v, Try.f13.params[j]? = some t → args[j]? = some v → Value.okWide Try.prog W .any base t v := hval0
  have hW' := hW
  obtain ⟨p, q, hA0, hV, rfl, hfz, hnd⟩ := hW
  have hA : DataW.TrodAll enc Try.prog W 0 (fun _ => true) true Try.f13.params.toList args.toList ds p := hA0
  rw [Try.params13] at hA hval
  obtain ⟨v0, vs0, d0, ds0, p0, q0, hargs, rfl, rfl, h0, r0⟩ := trodAll_cons hA
  obtain ⟨v1, vs1, d1, ds1, p1, q1, rfl, rfl, rfl, h1, r1⟩ := trodAll_cons r0
  obtain ⟨v2, vs2, d2, ds2, p2, q2, rfl, rfl, rfl, h2, r2⟩ := trodAll_cons r1
  obtain ⟨v3, vs3, d3, ds3, p3, q3, rfl, rfl, rfl, h3, r3⟩ := trodAll_cons r2
  obtain ⟨rfl, rfl, rfl⟩ := trodAll_nil r3
  obtain rfl : args = #[v0, v1, v2, v3] := by cases args; simp_all
  obtain ⟨rfl, rfl⟩ := trodVars_none hV
  obtain ⟨u0, rfl, f0⟩ := SX.open_flat (ks := List.replicate 300 (some .i64)) (by kernel_rfl) (by kernel_rfl) (hval 0 93 v0 rfl rfl) h0
  obtain ⟨u1, rfl, f1⟩ := SX.open_flat (ks := List.replicate 576 (some .i64)) (by kernel_rfl) (by kernel_rfl) (hval 1 110 v1 rfl rfl) h1
  obtain ⟨u2, rfl, f2⟩ := SX.open_flat (ks := List.replicate 24 (some .i64)) (by kernel_rfl) (by kernel_rfl) (hval 2 91 v2 rfl rfl) h2
  have hsl := SX.open_slice Try.underlying63 (ks := [some .i64]) (by kernel_rfl) (by kernel_rfl) (by decide) (hval 3 63 v3 rfl rfl) h3
  clear hA0 hval0
  rcases hsl with rfl | ⟨sa, sc, rfl⟩ | ⟨sb, so, sn, sc, su, rfl, s1, s2, s3, s4, s5, s6⟩
  · refine (SX.law_fit SX.namesOk SX.mixed (fun g => SX.sumsT10_ok g) ran0 (vs := [.agg ⟨u0⟩, .agg ⟨u1⟩, .agg ⟨u2⟩, .slice none 0 0]) (w := W) (⟨u0, _, rfl, ⟨rfl, f0⟩, ⟨u1, _, rfl, ⟨rfl, f1⟩, ⟨u2, _, rfl, ⟨rfl, f2⟩, ⟨[], _, rfl, ⟨rfl, rfl⟩, rfl⟩⟩⟩⟩)).mono fun e W' ⟨he, hg⟩ => ?_
    subst he
    exact ⟨_, rfl, law_post laidOut_any (by kernel_rfl) rfl (by kernel_rfl) Try.underlying4 rfl hW' hg⟩
  · refine (SX.law_fit SX.namesOk SX.mixed (fun g => SX.sumsT10_ok g) ranZ (vs := [.agg ⟨u0⟩, .agg ⟨u1⟩, .agg ⟨u2⟩, .slice (some sa) 0 sc]) (w := W) (⟨u0, _, rfl, ⟨rfl, f0⟩, ⟨u1, _, rfl, ⟨rfl, f1⟩, ⟨u2, _, rfl, ⟨rfl, f2⟩, ⟨[], _, rfl, ⟨rfl, sa, sc, rfl⟩, rfl⟩⟩⟩⟩)).mono fun e W' ⟨he, hg⟩ => ?_
    subst he
    exact ⟨_, rfl, law_post laidOut_any (by kernel_rfl) rfl (by kernel_rfl) Try.underlying4 rfl hW' hg⟩
  · rcases Nat.lt_or_ge 40 sn with hbig | hsmall
    · refine (SX.law_fit SX.namesOk SX.mixed (fun g => SX.sumsT10_ok g) ranBig (vs := [.agg ⟨u0⟩, .agg ⟨u1⟩, .agg ⟨u2⟩, .slice (some ⟨sb, so, none⟩) sn sc]) (w := W) (⟨u0, _, rfl, ⟨rfl, f0⟩, ⟨u1, _, rfl, ⟨rfl, f1⟩, ⟨u2, _, rfl, ⟨rfl, f2⟩, ⟨_, _, rfl, ⟨⟨sb, so, none⟩, sn, sc, rfl, rfl, hbig, by omega, s1, s4⟩, rfl⟩⟩⟩⟩)).mono fun e W' ⟨he, hg⟩ => ?_
      subst he
      exact ⟨_, rfl, law_post laidOut_any (by kernel_rfl) rfl (by kernel_rfl) Try.underlying4 rfl hW' hg⟩
    · have hr := rans sn (by omega) hsmall
      refine (SX.law_fit SX.namesOk SX.mixed (fun g => SX.sumsT10_ok g) hr (vs := [.agg ⟨u0⟩, .agg ⟨u1⟩, .agg ⟨u2⟩, .slice (some ⟨sb, so, none⟩) sn sc]) (w := W) (⟨u0, _, rfl, ⟨rfl, f0⟩, ⟨u1, _, rfl, ⟨rfl, f1⟩, ⟨u2, _, rfl, ⟨rfl, f2⟩, ⟨su, _, rfl, ⟨sb, so, sc, rfl, s1, s2, s4, s5, s6⟩, rfl⟩⟩⟩⟩)).mono fun e W' ⟨he, hg⟩ => ?_
      subst he
      exact ⟨_, rfl, law_post laidOut_any (by kernel_rfl) rfl (by kernel_rfl) Try.underlying4 rfl hW' hg⟩
theorem over : Rows.thorntonGoodRow.holds Try.pinned (OpenSpec.ofChange Rows.thorntonGoodSpec) :=
  OpenClaim.holds_of_wide 13 Try.f13 rfl rfl rfl rfl rfl rfl rfl ⟨rfl, rfl, rfl, rfl, rfl⟩ rfl rfl rfl rfl rfl (by kernel_rfl) Try.func13 (by kernel_rfl)
    (of_decide_eq_true (by kernel_rfl)) (by unfold Func.isWrapper; first | (rw [if_pos (by decide +kernel)]; kernel_rfl) | (rw [if_neg (by decide +kernel)]; exact ⟨rfl, rfl⟩))
    (fun os started H enc _ => lifted os started H enc)
/-- The statement. -/
theorem proved : Rows.ThorntonGoodSaid := over
#print axioms proved
end Go.Proofs.Ytmpainhbmgabbaa.thorntonGood
