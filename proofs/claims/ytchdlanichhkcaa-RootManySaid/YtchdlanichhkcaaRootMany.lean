/- Proved here: a length of any sides grows with one side more, and is that of its parts' lengths within two; nothing is clamped; no condition (the law asks of up to 40 sides, each shifted down by 12). -/
import Derived.Test.YtchdlanichhkcaaSxI2
import Derived.Test.YtchdlanichhkcaaRootManyL
import Derived.Test.YtchdlanichhkcaaAwakes
namespace Go.Proofs.Ytchdlanichhkcaa.rootMany
open Go.ChangeShapes Go.WideShapes Go.ChangeAt Go.RowKit Go.Joins
set_option maxRecDepth 100000 in
theorem lifted (os : Os) (started : os.Started) (H : Type) (enc : TypeId × Value → H) :
    ReturnsInHanded {} Try.checked os 8 .any (Rows.rootManySpec.pre6 enc Try.prog Try.f8 Rows.rootManyRow.domain false) (Rows.rootManySpec.post enc Try.prog Try.f8 false true false false) := by
  refine returnsInHanded_of_change (C := Try.checked) own_any started (by kernel_rfl) Try.func8
    (ChangeSpec.witness6 (enc := enc) (C := Try.checked) false ⟨#[], #[.slice none 0 0, .int .i64 0], []⟩ 8 (by kernel_rfl) (by kernel_rfl) (by kernel_rfl) (by kernel_rfl)) ?_
  intro W base args ds gs before hval0 hW hcnd _
  have hval : ∀ (j : Nat) t v, Try.f8.params[j]? = some t → args[j]? = some v → Value.okWide Try.prog W .any base t v := hval0
  have hW' := hW
  obtain ⟨p, q, hA0, hV, rfl, hfz, hnd⟩ := hW
  have hA : DataW.TrodAll enc Try.prog W 0 (fun _ => true) true Try.f8.params.toList args.toList ds p := hA0
  rw [Try.params8] at hA hval
  obtain ⟨v0, vs0, d0, ds0, p0, q0, hargs, rfl, rfl, h0, r0⟩ := trodAll_cons hA
  obtain ⟨v1, vs1, d1, ds1, p1, q1, rfl, rfl, rfl, h1, r1⟩ := trodAll_cons r0
  obtain ⟨rfl, rfl, rfl⟩ := trodAll_nil r1
  obtain rfl : args = #[v0, v1] := by cases args; simp_all
  obtain ⟨rfl, rfl⟩ := trodVars_none hV
  have hsl := SX.open_slice Try.underlying63 (ks := [some .i64]) (by kernel_rfl) (by kernel_rfl) (by decide) (hval 0 63 v0 rfl rfl) h0
  obtain ⟨a1, rfl, _, _, w1⟩ := open_int Try.underlying2 (hval 1 2 v1 rfl rfl) h1
  clear hA0 hval0
  rcases hsl with rfl | ⟨sa, sc, rfl⟩ | ⟨sb, so, sn, sc, su, rfl, s1, s2, s3, s4, s5, s6⟩
  · refine (SX.law_fit SX.namesOk SX.mixed (fun g => SX.sumsA_ok g) ran0 (vs := [.slice none 0 0, .int .i64 a1]) (w := W) (⟨[], _, rfl, ⟨rfl, rfl⟩, ⟨[.int .i64 a1], _, rfl, ⟨rfl, ⟨a1, rfl, w1⟩⟩, rfl⟩⟩)).mono fun e W' ⟨he, hg⟩ => ?_
    subst he
    exact ⟨_, rfl, law_post laidOut_any (by kernel_rfl) rfl (by kernel_rfl) Try.underlying4 rfl hW' hg⟩
  · refine (SX.law_fit SX.namesOk SX.mixed (fun g => SX.sumsA_ok g) ranZ (vs := [.slice (some sa) 0 sc, .int .i64 a1]) (w := W) (⟨[], _, rfl, ⟨rfl, sa, sc, rfl⟩, ⟨[.int .i64 a1], _, rfl, ⟨rfl, ⟨a1, rfl, w1⟩⟩, rfl⟩⟩)).mono fun e W' ⟨he, hg⟩ => ?_
    subst he
    exact ⟨_, rfl, law_post laidOut_any (by kernel_rfl) rfl (by kernel_rfl) Try.underlying4 rfl hW' hg⟩
  · rcases Nat.lt_or_ge 40 sn with hbig | hsmall
    · refine (SX.law_fit SX.namesOk SX.mixed (fun g => SX.sumsA_ok g) ranBig (vs := [.slice (some ⟨sb, so, none⟩) sn sc, .int .i64 a1]) (w := W) (⟨_, _, rfl, ⟨⟨sb, so, none⟩, sn, sc, rfl, rfl, hbig, by omega, s1, s4⟩, ⟨[.int .i64 a1], _, rfl, ⟨rfl, ⟨a1, rfl, w1⟩⟩, rfl⟩⟩)).mono fun e W' ⟨he, hg⟩ => ?_
      subst he
      exact ⟨_, rfl, law_post laidOut_any (by kernel_rfl) rfl (by kernel_rfl) Try.underlying4 rfl hW' hg⟩
    · have hr := rans sn (by omega) hsmall
      refine (SX.law_fit SX.namesOk SX.mixed (fun g => SX.sumsA_ok g) hr (vs := [.slice (some ⟨sb, so, none⟩) sn sc, .int .i64 a1]) (w := W) (⟨su, _, rfl, ⟨sb, so, sc, rfl, s1, s2, s4, s5, s6⟩, ⟨[.int .i64 a1], _, rfl, ⟨rfl, ⟨a1, rfl, w1⟩⟩, rfl⟩⟩)).mono fun e W' ⟨he, hg⟩ => ?_
      subst he
      exact ⟨_, rfl, law_post laidOut_any (by kernel_rfl) rfl (by kernel_rfl) Try.underlying4 rfl hW' hg⟩
theorem over : Rows.rootManyRow.holds Try.pinned (OpenSpec.ofChange Rows.rootManySpec) :=
  OpenClaim.holds_of_wide 8 Try.f8 rfl rfl rfl rfl rfl rfl rfl ⟨rfl, rfl, rfl, rfl, rfl⟩ rfl rfl rfl rfl rfl (by kernel_rfl) Try.func8 (by kernel_rfl)
    (of_decide_eq_true (by kernel_rfl)) (by unfold Func.isWrapper; first | (rw [if_pos (by decide +kernel)]; kernel_rfl) | (rw [if_neg (by decide +kernel)]; exact ⟨rfl, rfl⟩))
    (fun os started H enc _ => lifted os started H enc)
/-- The statement. -/
theorem proved : Rows.RootManySaid := over
#print axioms proved
end Go.Proofs.Ytchdlanichhkcaa.rootMany
