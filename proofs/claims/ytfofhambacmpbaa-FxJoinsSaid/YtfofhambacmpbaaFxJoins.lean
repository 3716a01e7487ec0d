/- From the walk of FxJoins to its row. -/
import Derived.Test.YtfofhambacmpbaaLift
import Derived.Test.YtfofhambacmpbaaFxJoinsW
import Derived.Test.YtfofhambacmpbaaFxJoinsZ
namespace Go.Proofs.Ytfofhambacmpbaa.fxJoins
open Go.ChangeShapes Go.WideShapes Go.ChangeAt Go.RowKit Go.Joins
theorem walk (a0 : Int) (v1 v2 : Value) (a3 : Int) (w : World) {n m : Nat} {xs ys : Nat → Int} (S1 : SlI w w.heap.size v1 n xs) (S2 : SlI w w.heap.size v2 m ys) : Good a0 v1 v2 a3 w := by
  by_cases h : n ≠ m ∨ 90 < n ∨ a3 < 0 ∨ (n : Int) < a3 ∨ a0 < 0 ∨ 120 < a0
  · rcases S1 with ⟨e1, rfl⟩ | ⟨A, ca, e1, rfl⟩ | ⟨a, ao, ca, p1, rfl, c1, m1, b1, x1⟩ <;> rcases S2 with ⟨e2, rfl⟩ | ⟨B, cb, e2, rfl⟩ | ⟨b, bo, cb, p2, rfl, c2, m2, b2, x2⟩
    all_goals first | subst e1 | skip
    all_goals first | subst e2 | skip
    all_goals exact walk_out _ _ _ _ _ _ _ _ _ h
  · obtain ⟨h1, h2, h3, h4, h5, h6⟩ : n = m ∧ n ≤ 90 ∧ 0 ≤ a3 ∧ a3 ≤ n ∧ 0 ≤ a0 ∧ a0 ≤ 120 := by omega
    clear h
    obtain ⟨s, rfl⟩ := Int.eq_ofNat_of_zero_le h5
    obtain ⟨c, rfl⟩ := Int.eq_ofNat_of_zero_le h3
    subst h1
    rcases Nat.eq_zero_or_pos n with h0 | h0
    · subst h0
      obtain rfl : c = 0 := by omega
      rcases S1 with ⟨_, rfl⟩ | ⟨A, ca, _, rfl⟩ | ⟨a, ao, ca, p1, _⟩
      · rcases S2 with ⟨_, rfl⟩ | ⟨B, cb, _, rfl⟩ | ⟨b, bo, cb, p2, _⟩
        · exact walk_nn s w (by omega)
        · exact walk_na s B cb w (by omega)
        · omega
      · rcases S2 with ⟨_, rfl⟩ | ⟨B, cb, _, rfl⟩ | ⟨b, bo, cb, p2, _⟩
        · exact walk_an s A ca w (by omega)
        · exact walk_ab s A B ca cb w (by omega)
        · omega
      · omega
    · rcases S1 with ⟨e1, _⟩ | ⟨A, ca, e1, _⟩ | ⟨a, ao, ca, p1, rfl, c1, m1, b1, x1⟩
      · omega
      · omega
      · rcases S2 with ⟨e2, _⟩ | ⟨B, cb, e2, _⟩ | ⟨b, bo, cb, p2, rfl, c2, m2, b2, x2⟩
        · omega
        · omega
        · exact walk_full s c a ao ca b bo cb n xs ys w h0 h2 (by omega) (by omega) c1 c2 m1 m2 b1 b2 x1 x2
set_option maxRecDepth 100000 in
theorem lifted (os : Os) (started : os.Started) (H : Type) (enc : TypeId × Value → H) :
    ReturnsInHanded {} Try.checked os 15 .any (Rows.fxJoinsSpec.pre6 enc Try.prog Try.f15 Rows.fxJoinsRow.domain false) (Rows.fxJoinsSpec.post enc Try.prog Try.f15 false true false false) := by
  refine returnsInHanded_of_change (C := Try.checked) own_any started (by kernel_rfl) Try.func15
    (ChangeSpec.witness6 (enc := enc) (C := Try.checked) false ⟨#[], #[.int .i64 0, .slice none 0 0, .slice none 0 0, .int .i64 0], []⟩ 8 (by kernel_rfl) (by kernel_rfl) (by kernel_rfl) (by kernel_rfl)) ?_
  intro W base args ds gs before hval0 hW hcnd _
  have hval : ∀ (j : Nat) t v, Try.f15.params[j]? = some t → args[j]? = some v → Value.okWide Try.prog W .any base t v := hval0
  have hW' := hW
  obtain ⟨p, q, hA0, hV, rfl, hfz, hnd⟩ := hW
  have hA : DataW.TrodAll enc Try.prog W 0 (fun _ => true) true Try.f15.params.toList args.toList ds p := hA0
  rw [Try.params15] at hA hval
  obtain ⟨v0, vs0, d0, ds0, p0, q0, hargs, rfl, rfl, h0, r0⟩ := trodAll_cons hA
  obtain ⟨v1, vs1, d1, ds1, p1, q1, rfl, rfl, rfl, h1, r1⟩ := trodAll_cons r0
  obtain ⟨v2, vs2, d2, ds2, p2, q2, rfl, rfl, rfl, h2, r2⟩ := trodAll_cons r1
  obtain ⟨v3, vs3, d3, ds3, p3, q3, rfl, rfl, rfl, h3, r3⟩ := trodAll_cons r2
  obtain ⟨rfl, rfl, rfl⟩ := trodAll_nil r3
  obtain rfl : args = #[v0, v1, v2, v3] := by cases args; simp_all
  obtain ⟨rfl, rfl⟩ := trodVars_none hV
  obtain ⟨a0, rfl, rfl, rfl, w0⟩ := open_int Try.underlying3 (hval 0 3 v0 rfl rfl) h0
  obtain ⟨n1, xs1, x1, _⟩ := open_sl Try.underlying68 Try.underlying2 (by kernel_rfl) (hval 1 68 v1 rfl rfl) h1
  obtain ⟨n2, xs2, x2, _⟩ := open_sl Try.underlying68 Try.underlying2 (by kernel_rfl) (hval 2 68 v2 rfl rfl) h2
  obtain ⟨a3, rfl, rfl, rfl, w3⟩ := open_int Try.underlying3 (hval 3 3 v3 rfl rfl) h3
  clear hA0 hval0
  refine (walk a0 v1 v2 a3 W x1 x2).mono fun e W' ⟨he, hg⟩ => ?_
  subst he
  exact ⟨_, rfl, law_post laidOut_any (by kernel_rfl) rfl (by kernel_rfl) Try.underlying4 rfl hW' hg⟩
theorem over : Rows.fxJoinsRow.holds Try.pinned (OpenSpec.ofChange Rows.fxJoinsSpec) :=
  OpenClaim.holds_of_wide 15 Try.f15 rfl rfl rfl rfl rfl rfl rfl ⟨rfl, rfl, rfl, rfl, rfl⟩ rfl rfl rfl rfl rfl (by kernel_rfl) Try.func15 (by kernel_rfl)
    (of_decide_eq_true (by kernel_rfl)) (by unfold Func.isWrapper; first | (rw [if_pos (by decide +kernel)]; kernel_rfl) | (rw [if_neg (by decide +kernel)]; exact ⟨rfl, rfl⟩))
    (fun os started H enc _ => lifted os started H enc)
/-- The statement. -/
theorem proved : Rows.FxJoinsSaid := over
#print axioms proved
end Go.Proofs.Ytfofhambacmpbaa.fxJoins
