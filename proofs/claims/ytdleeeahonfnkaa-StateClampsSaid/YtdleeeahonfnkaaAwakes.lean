/- What the document tells of a few numbers, layer by layer: run once. -/
import Derived.Test.YtdleeeahonfnkaaSxW
import Derived.Test.YtdleeeahonfnkaaSxY
namespace Go.Proofs.Ytdleeeahonfnkaa.SX
open Go Go.RowKit
noncomputable section
/-- A closed call that answers 'true'. -/
def closedS (args : List V) (st : St) : Option (V × St) := match args with
  | [] => some (.w (.c (.b (.k 1))), st)
  | _ => none
theorem closed_case {g : Sg} {f : FuncId} (hc : ∀ w, Calls Try.prog f #[] w fun e w' => e = .returned (.bool true) ∧ Below w.heap.size w w') : CaseOk g f closedS := fun args st v st' h hg => by
  unfold closedS at h
  split at h
  · cases h
    refine ⟨hg, fun r w vs hI hv => ?_⟩
    match vs, hv with
    | [], _ =>
      refine (hc w).mono fun e w' hp => ?_
      obtain ⟨rfl, hb⟩ := hp
      exact ⟨r, _, rfl, mk_b r (.k 1), (below_mem hI hb).1, (below_mem hI hb).2⟩
  · cases h
set_option maxRecDepth 100000 in
theorem aw2_ran : trueB (runCall lk U X sums3 100000 40 21 [] st0) = true := by kernel_rfl
set_option maxRecDepth 100000 in
theorem aw4_ran : trueB (runCall lk U X sums3 100000 40 39 [] st0) = true := by kernel_rfl
set_option maxRecDepth 100000 in
theorem aw5_ran : trueB (runCall lk U X sums3 100000 40 50 [] st0) = true := by kernel_rfl
def awS : Sum :=
  orS (one 21 closedS) <|
  orS (one 39 closedS) <|
  orS (one 50 closedS) <|
  noSum
theorem awS_ok (g : Sg) : CallOk Try.prog U g awS :=
  orS_ok (one_ok (closed_case fun w => closed_true namesOk mixed sums3_ok _ _ aw2_ran w)) <|
  orS_ok (one_ok (closed_case fun w => closed_true namesOk mixed sums3_ok _ _ aw4_ran w)) <|
  orS_ok (one_ok (closed_case fun w => closed_true namesOk mixed sums3_ok _ _ aw5_ran w)) <|
  noSum_ok
def sumsA : Sum := orS awS sums3
theorem sumsA_ok (g : Sg) : CallOk Try.prog U g sumsA := orS_ok (awS_ok g) (sums3_ok g)
end
end Go.Proofs.Ytdleeeahonfnkaa.SX
