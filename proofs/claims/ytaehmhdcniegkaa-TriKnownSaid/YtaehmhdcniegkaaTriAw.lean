/- What the document tells of one variance (chapter 9), run once; the calls of tri, with it. -/
import Derived.Test.YtaehmhdcniegkaaSxTr
import Derived.Test.YtaehmhdcniegkaaSxY
namespace Go.Proofs.Ytaehmhdcniegkaa.SX
open Go Go.RowKit
noncomputable section
set_option maxRecDepth 100000 in
theorem aw9_ran : trueB (runCall lk U X sumsTr 100000 40 14 [] st0) = true := by kernel_rfl
def closedT (args : List V) (st : St) : Option (V × St) := match args with
  | [] => some (.w (.c (.b (.k 1))), st)
  | _ => none
theorem closedT_case {g : Sg} {f : FuncId} (hc : ∀ w, Calls Try.prog f #[] w fun e w' => e = .returned (.bool true) ∧ Below w.heap.size w w') : CaseOk g f closedT := fun args st v st' h hg => by
  unfold closedT at h
  split at h
  · cases h
    refine ⟨hg, fun r w vs hI hv => ?_⟩
    match vs, hv with
    | [], _ =>
      refine (hc w).mono fun e w' hp => ?_
      obtain ⟨rfl, hb⟩ := hp
      exact ⟨r, _, rfl, mk_b r (.k 1), (below_mem hI hb).1, (below_mem hI hb).2⟩
  · cases h
def sumsT9 : Sum := orS (one 14 closedT) sumsTr
theorem sumsT9_ok (g : Sg) : CallOk Try.prog U g sumsT9 := orS_ok (one_ok (closedT_case fun w => closed_true namesOk mixed sumsTr_ok _ _ aw9_ran w)) (sumsTr_ok g)
end
end Go.Proofs.Ytaehmhdcniegkaa.SX
