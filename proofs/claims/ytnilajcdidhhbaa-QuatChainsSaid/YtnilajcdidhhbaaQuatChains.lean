/- Proved here: a chain is its products one after the other, with the flag; no condition (the law asks of at most 30). -/
import Derived.Test.YtnilajcdidhhbaaSxI2
import Derived.Test.YtnilajcdidhhbaaQuatChainsL
import Derived.Test.YtnilajcdidhhbaaAwakes
namespace Go.Proofs.Ytnilajcdidhhbaa.quatChains
open Go.ChangeShapes Go.WideShapes Go.ChangeAt Go.RowKit Go.Joins
set_option maxRecDepth 100000 in
theorem lifted (os : Os) (started : os.Started) (H : Type) (enc : TypeId × Value → H) :
    ReturnsInHanded {} Try.checked os 11 .any (Rows.quatChainsSpec.pre6 enc Try.prog Try.f11 Rows.quatChainsRow.domain false) (Rows.quatChainsSpec.post enc Try.prog Try.f11 false true false false) := by
  refine returnsInHanded_of_change (C := Try.checked) own_any started (by kernel_rfl) Try.func11
    (ChangeSpec.witness6 (enc := enc) (C := Try.checked) false ⟨#[], #[.slice none 0 0], []⟩ 8 (by kernel_rfl) (by kernel_rfl) (by kernel_rfl) (by kernel_rfl)) ?_
  intro W base args ds gs before hval0 hW hcnd _
  have hval : ∀ (j : Nat) t v, Try.f11.params[j]? = some t → args[j]? = some v → Value.okWide Try.prog W .any base t v := hval0
  have hW' := hW
  obtain ⟨p, q, hA0, hV, rfl, hfz, hnd⟩ := hW
  have hA : DataW.TrodAll enc Try.prog W 0 (fun _ => true) true Try.f11.params.toList args.toList ds p := hA0
  rw [Try.params11] at hA hval
  obtain ⟨v0, vs0, d0, ds0, p0, q0, hargs, rfl, rfl, h0, r0⟩ := trodAll_cons hA
  obtain ⟨rfl, rfl, rfl⟩ := trodAll_nil r0
  obtain rfl : args = #[v0] := by cases args; simp_all
  obtain ⟨rfl, rfl⟩ := trodVars_none hV
  have hsl := SX.open_slice Try.underlying91 (ks := [some .i64, some .i64, some .i64, some .i64]) (by kernel_rfl) (by kernel_rfl) (by decide) (hval 0 91 v0 rfl rfl) h0
  clear hA0 hval0
  rcases hsl with rfl | ⟨sa, sc, rfl⟩ | ⟨sb, so, sn, sc, su, rfl, s1, s2, s3, s4, s5, s6⟩
  · refine (SX.law_fit SX.namesOk SX.mixed (fun g => SX.sumsA_ok g) ran0 (vs := [.slice none 0 0]) (w := W) (⟨[], _, rfl, ⟨rfl, rfl⟩, rfl⟩)).mono fun e W' ⟨he, hg⟩ => ?_
    subst he
    exact ⟨_, rfl, law_post laidOut_any (by kernel_rfl) rfl (by kernel_rfl) Try.underlying4 rfl hW' hg⟩
  · refine (SX.law_fit SX.namesOk SX.mixed (fun g => SX.sumsA_ok g) ranZ (vs := [.slice (some sa) 0 sc]) (w := W) (⟨[], _, rfl, ⟨rfl, sa, sc, rfl⟩, rfl⟩)).mono fun e W' ⟨he, hg⟩ => ?_
    subst he
    exact ⟨_, rfl, law_post laidOut_any (by kernel_rfl) rfl (by kernel_rfl) Try.underlying4 rfl hW' hg⟩
  · rcases Nat.lt_or_ge 30 sn with hbig | hsmall
    · refine (SX.law_fit SX.namesOk SX.mixed (fun g => SX.sumsA_ok g) ranBig (vs := [.slice (some ⟨sb, so, none⟩) sn sc]) (w := W) (⟨_, _, rfl, ⟨⟨sb, so, none⟩, sn, sc, rfl, rfl, hbig, by omega, s1, s4⟩, rfl⟩)).mono fun e W' ⟨he, hg⟩ => ?_
      subst he
      exact ⟨_, rfl, law_post laidOut_any (by kernel_rfl) rfl (by kernel_rfl) Try.underlying4 rfl hW' hg⟩
    · have hr := rans sn (by omega) hsmall
      refine (SX.law_fit SX.namesOk SX.mixed (fun g => SX.sumsA_ok g) hr (vs := [.slice (some ⟨sb, so, none⟩) sn sc]) (w := W) (⟨su, _, rfl, ⟨sb, so, sc, rfl, s1, s2, s4, s5, s6⟩, rfl⟩)).mono fun e W' ⟨he, hg⟩ => ?_
      subst he
      exact ⟨_, rfl, law_post laidOut_any (by kernel_rfl) rfl (by kernel_rfl) Try.underlying4 rfl hW' hg⟩
theorem over : Rows.quatChainsRow.holds Try.pinned (OpenSpec.ofChange Rows.quatChainsSpec) :=
  OpenClaim.holds_of_wide 11 Try.f11 rfl rfl rfl rfl rfl rfl rfl ⟨rfl, rfl, rfl, rfl, rfl⟩ rfl rfl rfl rfl rfl (by kernel_rfl) Try.func11 (by kernel_rfl)
    (of_decide_eq_true (by kernel_rfl)) (by unfold Func.isWrapper; first | (rw [if_pos (by decide +kernel)]; kernel_rfl) | (rw [if_neg (by decide +kernel)]; exact ⟨rfl, rfl⟩))
    (fun os started H enc _ => lifted os started H enc)
/-- The statement. -/
theorem proved : Rows.QuatChainsSaid := over
#print axioms proved
end Go.Proofs.Ytnilajcdidhhbaa.quatChains
