/- What the document tells of a small step (chapter 10), run once; both steps' calls, with it. -/
import Derived.Test.YtmpainhbmgabbaaSxTs
import Derived.Test.YtmpainhbmgabbaaSxY
namespace Go.Proofs.Ytmpainhbmgabbaa.SX
open Go Go.RowKit
noncomputable section
set_option maxRecDepth 100000 in
theorem aw10s_ran : trueB (runCall lk U X sumsTs 100000 40 97 [] st0) = true := by kernel_rfl
def closedU (args : List V) (st : St) : Option (V × St) := match args with
  | [] => some (.w (.c (.b (.k 1))), st)
  | _ => none
theorem closedU_case {g : Sg} {f : FuncId} (hc : ∀ w, Calls Try.prog f #[] w fun e w' => e = .returned (.bool true) ∧ Below w.heap.size w w') : CaseOk g f closedU := fun args st v st' h hg => by
  unfold closedU at h
  split at h
  · cases h
    refine ⟨hg, fun r w vs hI hv => ?_⟩
    match vs, hv with
    | [], _ =>
      refine (hc w).mono fun e w' hp => ?_
      obtain ⟨rfl, hb⟩ := hp
      exact ⟨r, _, rfl, mk_b r (.k 1), (below_mem hI hb).1, (below_mem hI hb).2⟩
  · cases h
def sumsT10s : Sum := orS (one 97 closedU) sumsTs
theorem sumsT10s_ok (g : Sg) : CallOk Try.prog U g sumsT10s := orS_ok (one_ok (closedU_case fun w => closed_true namesOk mixed sumsTs_ok _ _ aw10s_ran w)) (sumsTs_ok g)
end
end Go.Proofs.Ytmpainhbmgabbaa.SX
