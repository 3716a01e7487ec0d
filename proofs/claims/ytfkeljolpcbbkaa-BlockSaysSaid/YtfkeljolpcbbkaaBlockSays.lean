/- Proved here: BlockSays, of all factors, all moments, all lists; no condition (lists of at most 30). -/
import Derived.Test.YtfkeljolpcbbkaaFitR
import Derived.Test.YtfkeljolpcbbkaaBlockSaysW
import Derived.Test.YtfkeljolpcbbkaaSlR
namespace Go.Proofs.Ytfkeljolpcbbkaa.blockSays
open Go.ChangeShapes Go.WideShapes Go.ChangeAt Go.RowKit Go.Joins
set_option maxRecDepth 100000 in
theorem lifted (os : Os) (started : os.Started) (H : Type) (enc : TypeId × Value → H) :
    ReturnsInHanded {} Try.checked os 14 .any (Rows.blockSaysSpec.pre6 enc Try.prog Try.f14 Rows.blockSaysRow.domain false) (Rows.blockSaysSpec.post enc Try.prog Try.f14 false true false false) := by
  refine returnsInHanded_of_change (C := Try.checked) own_any started (by kernel_rfl) Try.func14
    (ChangeSpec.witness6 (enc := enc) (C := Try.checked) false ⟨#[], #[.agg (Array.replicate 300 (.int .i64 0)), .int .i64 0, .slice none 0 0, .slice none 0 0], []⟩ 8 (by kernel_rfl) (by kernel_rfl) (by kernel_rfl) (by kernel_rfl)) ?_
  intro W base args ds gs before hval0 hW hcnd _
  have hval : ∀ (j : Nat) t v, Try.f14.params[j]? = some t → args[j]? = some v → Value.okWide Try.prog W .any base t v := hval0
  have hW' := hW
  obtain ⟨p, q, hA0, hV, rfl, hfz, hnd⟩ := hW
  have hA : DataW.TrodAll enc Try.prog W 0 (fun _ => true) true Try.f14.params.toList args.toList ds p := hA0
  rw [Try.params14] at hA hval
  obtain ⟨v0, vs0, d0, ds0, p0, q0, hargs, rfl, rfl, h0, r0⟩ := trodAll_cons hA
  obtain ⟨v1, vs1, d1, ds1, p1, q1, rfl, rfl, rfl, h1, r1⟩ := trodAll_cons r0
  obtain ⟨v2, vs2, d2, ds2, p2, q2, rfl, rfl, rfl, h2, r2⟩ := trodAll_cons r1
  obtain ⟨v3, vs3, d3, ds3, p3, q3, rfl, rfl, rfl, h3, r3⟩ := trodAll_cons r2
  obtain ⟨rfl, rfl, rfl⟩ := trodAll_nil r3
  obtain rfl : args = #[v0, v1, v2, v3] := by cases args; simp_all
  obtain ⟨rfl, rfl⟩ := trodVars_none hV
  obtain ⟨u0, rfl, f0⟩ := SX.open_flat (ks := List.replicate 300 (some .i64)) (by kernel_rfl) (by kernel_rfl) (hval 0 93 v0 rfl rfl) h0
  obtain ⟨g0, e0, b0⟩ := fit_row f0
  obtain ⟨a1, rfl, _, _, w1⟩ := open_int Try.underlying3 (hval 1 3 v1 rfl rfl) h1
  obtain ⟨n2, xs2, sl2, bd2⟩ := open_sl Try.underlying63 Try.underlying2 (by kernel_rfl) (hval 2 63 v2 rfl rfl) h2
  obtain ⟨pa2, c2, rfl, hn2, hs2⟩ := sl_of sl2
  obtain ⟨n3, xs3, sl3, bd3⟩ := open_sl Try.underlying114 Try.underlying3 (by kernel_rfl) (hval 3 114 v3 rfl rfl) h3
  obtain ⟨pa3, c3, rfl, hn3, hs3⟩ := sl_of sl3
  clear hA0 hval0
  have hwalk := walk g0 b0 a1 (wf_i64 w1) pa2 n2 c2 xs2 hn2 pa3 n3 c3 xs3 hn3 W hs2 hs3
  unfold Good at hwalk
  rw [← e0] at hwalk
  refine hwalk.mono fun e W' ⟨he, hg⟩ => ?_
  subst he
  exact ⟨_, rfl, law_post laidOut_any (by kernel_rfl) rfl (by kernel_rfl) Try.underlying4 rfl hW' hg⟩
theorem over : Rows.blockSaysRow.holds Try.pinned (OpenSpec.ofChange Rows.blockSaysSpec) :=
  OpenClaim.holds_of_wide 14 Try.f14 rfl rfl rfl rfl rfl rfl rfl ⟨rfl, rfl, rfl, rfl, rfl⟩ rfl rfl rfl rfl rfl (by kernel_rfl) Try.func14 (by kernel_rfl)
    (of_decide_eq_true (by kernel_rfl)) (by unfold Func.isWrapper; first | (rw [if_pos (by decide +kernel)]; kernel_rfl) | (rw [if_neg (by decide +kernel)]; exact ⟨rfl, rfl⟩))
    (fun os started H enc _ => lifted os started H enc)
/-- The statement. -/
theorem proved : Rows.BlockSaysSaid := over
#print axioms proved
end Go.Proofs.Ytfkeljolpcbbkaa.blockSays
