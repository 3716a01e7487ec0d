/- What the document tells of one variance (chapter 9), run once; the calls of tri, with it. -/
import Derived.Test.YtmpainhbmgabbaaSTX
import Derived.Test.YtmpainhbmgabbaaSxY
namespace Go.Proofs.Ytmpainhbmgabbaa.SX
open Go Go.RowKit
noncomputable section
set_option maxRecDepth 100000 in
theorem aw9_ran : trueB (runCall lk U X sumsTr 100000 40 84 [] st0) = true := by kernel_rfl
def closedT (args : List V) (st : St) : Option (V × St) := match args with
  | [] => some (.w (.c (.b (.k 1))), st)
  | _ => none
theorem closedT_case {g : Sg} {f : FuncId} (hc : ∀ w, Calls Try.prog f #[] w fun e w' => e = .returned (.bool true) ∧ Below w.heap.size w w') : CaseOk g f closedT := fun args st v st' h hg => by
  unfold closedT at h
  split at h
  · cases h
    refine ⟨hg, fun r w vs hI hv => ?_⟩
    match vs, hv with
    | [], _ =>
      refine (hc w).mono fun e w' hp => ?_
      obtain ⟨rfl, hb⟩ := hp
      exact ⟨r, _, rfl, mk_b r (.k 1), (below_mem hI hb).1, (below_mem hI hb).2⟩
  · cases h
end
end Go.Proofs.Ytmpainhbmgabbaa.SX
