/- Proved here: the flag stays, and is set just where a number lies beyond the bounds; Merge takes it over from any, and changes none; no condition (the law asks of up to 50 flags). -/
import Derived.Test.YtchdlanichhkcaaSxI2
import Derived.Test.YtchdlanichhkcaaFxFlagsL
import Derived.Test.YtchdlanichhkcaaAwakes
namespace Go.Proofs.Ytchdlanichhkcaa.fxFlags
open Go.ChangeShapes Go.WideShapes Go.ChangeAt Go.RowKit Go.Joins
theorem facts0_ok (g : SX.Sg) (n : Nat) (a0 a1 : Int) (e0 : g (n + 2) = a0) (_e1 : g (n + 3) = a1) (h0 : 1152921504606846976 < a0) : ∀ c ∈ facts0 n, SX.ciOk g c :=
  SX.facts_all (show SX.FactsOk g (facts0 n) from ⟨SX.fact_lt (decide_eq_true (show (1152921504606846976 : Int) < g (n + 2) by rw [e0]; omega)), trivial⟩)
theorem facts1_ok (g : SX.Sg) (n : Nat) (a0 a1 : Int) (e0 : g (n + 2) = a0) (_e1 : g (n + 3) = a1) (h0 : a0 < -1152921504606846976) : ∀ c ∈ facts1 n, SX.ciOk g c :=
  SX.facts_all (show SX.FactsOk g (facts1 n) from ⟨SX.fact_lt (decide_eq_true (show g (n + 2) < (-1152921504606846976 : Int) by rw [e0]; omega)), trivial⟩)
theorem facts2_ok (g : SX.Sg) (n : Nat) (a0 a1 : Int) (e0 : g (n + 2) = a0) (e1 : g (n + 3) = a1) (h0 : ¬ (1152921504606846976 < a0)) (h1 : ¬ (a0 < -1152921504606846976)) (h2 : 1152921504606846976 < a1) : ∀ c ∈ facts2 n, SX.ciOk g c :=
  SX.facts_all (show SX.FactsOk g (facts2 n) from ⟨SX.fact_lt (decide_eq_false (show ¬ ((1152921504606846976 : Int) < g (n + 2)) by rw [e0]; omega)), SX.fact_lt (decide_eq_false (show ¬ (g (n + 2) < (-1152921504606846976 : Int)) by rw [e0]; omega)), SX.fact_lt (decide_eq_true (show (1152921504606846976 : Int) < g (n + 3) by rw [e1]; omega)), trivial⟩)
theorem facts3_ok (g : SX.Sg) (n : Nat) (a0 a1 : Int) (e0 : g (n + 2) = a0) (e1 : g (n + 3) = a1) (h0 : ¬ (1152921504606846976 < a0)) (h1 : ¬ (a0 < -1152921504606846976)) (h2 : a1 < -1152921504606846976) : ∀ c ∈ facts3 n, SX.ciOk g c :=
  SX.facts_all (show SX.FactsOk g (facts3 n) from ⟨SX.fact_lt (decide_eq_false (show ¬ ((1152921504606846976 : Int) < g (n + 2)) by rw [e0]; omega)), SX.fact_lt (decide_eq_false (show ¬ (g (n + 2) < (-1152921504606846976 : Int)) by rw [e0]; omega)), SX.fact_lt (decide_eq_true (show g (n + 3) < (-1152921504606846976 : Int) by rw [e1]; omega)), trivial⟩)
theorem facts4_ok (g : SX.Sg) (n : Nat) (a0 a1 : Int) (e0 : g (n + 2) = a0) (e1 : g (n + 3) = a1) (h0 : ¬ (1152921504606846976 < a0)) (h1 : ¬ (a0 < -1152921504606846976)) (h2 : ¬ (1152921504606846976 < a1)) (h3 : ¬ (a1 < -1152921504606846976)) : ∀ c ∈ facts4 n, SX.ciOk g c :=
  SX.facts_all (show SX.FactsOk g (facts4 n) from ⟨SX.fact_lt (decide_eq_false (show ¬ ((1152921504606846976 : Int) < g (n + 2)) by rw [e0]; omega)), SX.fact_lt (decide_eq_false (show ¬ (g (n + 2) < (-1152921504606846976 : Int)) by rw [e0]; omega)), SX.fact_lt (decide_eq_false (show ¬ ((1152921504606846976 : Int) < g (n + 3)) by rw [e1]; omega)), SX.fact_lt (decide_eq_false (show ¬ (g (n + 3) < (-1152921504606846976 : Int)) by rw [e1]; omega)), trivial⟩)
set_option maxHeartbeats 1000000 in
set_option maxRecDepth 100000 in
theorem lifted (os : Os) (started : os.Started) (H : Type) (enc : TypeId × Value → H) :
    ReturnsInHanded {} Try.checked os 7 .any (Rows.fxFlagsSpec.pre6 enc Try.prog Try.f7 Rows.fxFlagsRow.domain false) (Rows.fxFlagsSpec.post enc Try.prog Try.f7 false true false false) := by
  refine returnsInHanded_of_change (C := Try.checked) own_any started (by kernel_rfl) Try.func7
    (ChangeSpec.witness6 (enc := enc) (C := Try.checked) false ⟨#[], #[.int .i64 0, .int .i64 0, .slice none 0 0], []⟩ 8 (by kernel_rfl) (by kernel_rfl) (by kernel_rfl) (by kernel_rfl)) ?_
  intro W base args ds gs before hval0 hW hcnd _
  have hval : ∀ (j : Nat) t v, Try.f7.params[j]? = some t → args[j]? = some v → Value.okWide Try.prog W .any base t v := hval0
  have hW' := hW
  obtain ⟨p, q, hA0, hV, rfl, hfz, hnd⟩ := hW
  have hA : DataW.TrodAll enc Try.prog W 0 (fun _ => true) true Try.f7.params.toList args.toList ds p := hA0
  rw [Try.params7] at hA hval
  obtain ⟨v0, vs0, d0, ds0, p0, q0, hargs, rfl, rfl, h0, r0⟩ := trodAll_cons hA
  obtain ⟨v1, vs1, d1, ds1, p1, q1, rfl, rfl, rfl, h1, r1⟩ := trodAll_cons r0
  obtain ⟨v2, vs2, d2, ds2, p2, q2, rfl, rfl, rfl, h2, r2⟩ := trodAll_cons r1
  obtain ⟨rfl, rfl, rfl⟩ := trodAll_nil r2
  obtain rfl : args = #[v0, v1, v2] := by cases args; simp_all
  obtain ⟨rfl, rfl⟩ := trodVars_none hV
  obtain ⟨a0, rfl, _, _, w0⟩ := open_int Try.underlying2 (hval 0 2 v0 rfl rfl) h0
  obtain ⟨a1, rfl, _, _, w1⟩ := open_int Try.underlying2 (hval 1 2 v1 rfl rfl) h1
  have hsl := SX.open_slice Try.underlying67 (ks := [none]) (by kernel_rfl) (by kernel_rfl) (by decide) (hval 2 67 v2 rfl rfl) h2
  clear hA0 hval0
  rcases hsl with rfl | ⟨sa, sc, rfl⟩ | ⟨sb, so, sn, sc, su, rfl, s1, s2, s3, s4, s5, s6⟩
  · refine (SX.law_fit SX.namesOk SX.mixed (fun g => SX.awS_ok g) ran0 (vs := [.int .i64 a0, .int .i64 a1, .slice none 0 0]) (w := W) (⟨[.int .i64 a0], _, rfl, ⟨rfl, ⟨a0, rfl, w0⟩⟩, ⟨[.int .i64 a1], _, rfl, ⟨rfl, ⟨a1, rfl, w1⟩⟩, ⟨[], _, rfl, ⟨rfl, rfl⟩, rfl⟩⟩⟩)).mono fun e W' ⟨he, hg⟩ => ?_
    subst he
    exact ⟨_, rfl, law_post laidOut_any (by kernel_rfl) rfl (by kernel_rfl) Try.underlying4 rfl hW' hg⟩
  · refine (SX.law_fit SX.namesOk SX.mixed (fun g => SX.awS_ok g) ranZ (vs := [.int .i64 a0, .int .i64 a1, .slice (some sa) 0 sc]) (w := W) (⟨[.int .i64 a0], _, rfl, ⟨rfl, ⟨a0, rfl, w0⟩⟩, ⟨[.int .i64 a1], _, rfl, ⟨rfl, ⟨a1, rfl, w1⟩⟩, ⟨[], _, rfl, ⟨rfl, sa, sc, rfl⟩, rfl⟩⟩⟩)).mono fun e W' ⟨he, hg⟩ => ?_
    subst he
    exact ⟨_, rfl, law_post laidOut_any (by kernel_rfl) rfl (by kernel_rfl) Try.underlying4 rfl hW' hg⟩
  · rcases Nat.lt_or_ge 50 sn with hbig | hsmall
    · refine (SX.law_fit SX.namesOk SX.mixed (fun g => SX.awS_ok g) ranBig (vs := [.int .i64 a0, .int .i64 a1, .slice (some ⟨sb, so, none⟩) sn sc]) (w := W) (⟨[.int .i64 a0], _, rfl, ⟨rfl, ⟨a0, rfl, w0⟩⟩, ⟨[.int .i64 a1], _, rfl, ⟨rfl, ⟨a1, rfl, w1⟩⟩, ⟨_, _, rfl, ⟨⟨sb, so, none⟩, sn, sc, rfl, rfl, hbig, by omega, s1, s4⟩, rfl⟩⟩⟩)).mono fun e W' ⟨he, hg⟩ => ?_
      subst he
      exact ⟨_, rfl, law_post laidOut_any (by kernel_rfl) rfl (by kernel_rfl) Try.underlying4 rfl hW' hg⟩
    · have v0 := wf_i64 w0
      have v1 := wf_i64 w1
      have hlen : ∀ k : Nat, (SX.repL [(none : Option IntKind)] k).length = k := fun k => by
        induction k with
        | zero => rfl
        | succ k ih => show ([none] ++ SX.repL [none] k).length = k + 1; rw [List.length_append, ih]; simp; omega
      have hm : (SX.arSize [.one (some .i64), .one (some .i64), .sl sn [none]]) = sn + 2 := by show 1 + (1 + ((SX.repL [none] sn).length + 0)) = sn + 2; rw [hlen]; omega
      have e0 : SX.gF (SX.arSize [.one (some .i64), .one (some .i64), .sl sn [none]]) (SX.sgOf ([.int .i64 a0] ++ ([.int .i64 a1] ++ (su ++ [])))) (sn + 2) = a0 := by
        rw [hm]
        show SX.wrapF .i64 (SX.sgOf ([.int .i64 a0] ++ ([.int .i64 a1] ++ (su ++ []))) (sn + 2 - (sn + 2))) = a0
        rw [Nat.sub_self]
        show SX.wrapF .i64 a0 = a0
        exact SX.wrap_small (by omega) (by omega)
      have e1 : SX.gF (SX.arSize [.one (some .i64), .one (some .i64), .sl sn [none]]) (SX.sgOf ([.int .i64 a0] ++ ([.int .i64 a1] ++ (su ++ [])))) (sn + 3) = a1 := by
        rw [hm]
        show SX.wrapF .i64 (SX.sgOf ([.int .i64 a0] ++ ([.int .i64 a1] ++ (su ++ []))) (sn + 3 - (sn + 2))) = a1
        rw [show sn + 3 - (sn + 2) = 1 by omega]
        show SX.wrapF .i64 a1 = a1
        exact SX.wrap_small (by omega) (by omega)
      have fit : SX.FitAs W [.one (some .i64), .one (some .i64), .sl sn [none]] [.int .i64 a0, .int .i64 a1, .slice (some ⟨sb, so, none⟩) sn sc] ([.int .i64 a0] ++ ([.int .i64 a1] ++ (su ++ []))) := ⟨[.int .i64 a0], _, rfl, ⟨rfl, ⟨a0, rfl, w0⟩⟩, ⟨[.int .i64 a1], _, rfl, ⟨rfl, ⟨a1, rfl, w1⟩⟩, ⟨su, _, rfl, ⟨sb, so, sc, rfl, s1, s2, s4, s5, s6⟩, rfl⟩⟩⟩
      have run : Calls Try.prog 7 #[.int .i64 a0, .int .i64 a1, .slice (some ⟨sb, so, none⟩) sn sc] W fun e w' => e = .returned (.bool true) ∧ Go.RowKit.Below W.heap.size W w' := by
        rcases (show (1152921504606846976 < a0) ∨ (a0 < -1152921504606846976) ∨ (¬ (1152921504606846976 < a0) ∧ ¬ (a0 < -1152921504606846976) ∧ 1152921504606846976 < a1) ∨ (¬ (1152921504606846976 < a0) ∧ ¬ (a0 < -1152921504606846976) ∧ a1 < -1152921504606846976) ∨ (¬ (1152921504606846976 < a0) ∧ ¬ (a0 < -1152921504606846976) ∧ ¬ (1152921504606846976 < a1) ∧ ¬ (a1 < -1152921504606846976)) by omega) with ⟨h0⟩ | ⟨h0⟩ | ⟨h0, h1, h2⟩ | ⟨h0, h1, h2⟩ | ⟨h0, h1, h2, h3⟩
        · exact SX.law_fitF SX.namesOk SX.mixed (fun g => SX.awS_ok g) (cs0 sn (by omega) hsmall) (facts0_ok _ sn a0 a1 e0 e1 h0) fit
        · exact SX.law_fitF SX.namesOk SX.mixed (fun g => SX.awS_ok g) (cs1 sn (by omega) hsmall) (facts1_ok _ sn a0 a1 e0 e1 h0) fit
        · exact SX.law_fitF SX.namesOk SX.mixed (fun g => SX.awS_ok g) (cs2 sn (by omega) hsmall) (facts2_ok _ sn a0 a1 e0 e1 h0 h1 h2) fit
        · exact SX.law_fitF SX.namesOk SX.mixed (fun g => SX.awS_ok g) (cs3 sn (by omega) hsmall) (facts3_ok _ sn a0 a1 e0 e1 h0 h1 h2) fit
        · exact SX.law_fitF SX.namesOk SX.mixed (fun g => SX.awS_ok g) (cs4 sn (by omega) hsmall) (facts4_ok _ sn a0 a1 e0 e1 h0 h1 h2 h3) fit
      refine run.mono fun e W' ⟨he, hg⟩ => ?_
      subst he
      exact ⟨_, rfl, law_post laidOut_any (by kernel_rfl) rfl (by kernel_rfl) Try.underlying4 rfl hW' hg⟩
theorem over : Rows.fxFlagsRow.holds Try.pinned (OpenSpec.ofChange Rows.fxFlagsSpec) :=
  OpenClaim.holds_of_wide 7 Try.f7 rfl rfl rfl rfl rfl rfl rfl ⟨rfl, rfl, rfl, rfl, rfl⟩ rfl rfl rfl rfl rfl (by kernel_rfl) Try.func7 (by kernel_rfl)
    (of_decide_eq_true (by kernel_rfl)) (by unfold Func.isWrapper; first | (rw [if_pos (by decide +kernel)]; kernel_rfl) | (rw [if_neg (by decide +kernel)]; exact ⟨rfl, rfl⟩))
    (fun os started H enc _ => lifted os started H enc)
/-- The statement. -/
theorem proved : Rows.FxFlagsSaid := over
#print axioms proved
end Go.Proofs.Ytchdlanichhkcaa.fxFlags
