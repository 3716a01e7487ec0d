/- What the document tells of one number that is learnt (chapter 11), run once; the calls of bierman, with it. -/
import Derived.Test.YtplffehgjdinnaaSxBi
import Derived.Test.YtplffehgjdinnaaSxY
namespace Go.Proofs.Ytplffehgjdinnaa.SX
open Go Go.RowKit
noncomputable section
set_option maxRecDepth 100000 in
theorem aw11_ran : trueB (runCall lk U X sumsBi 100000 40 87 [] st0) = true := by kernel_rfl
def closedB (args : List V) (st : St) : Option (V × St) := match args with
  | [] => some (.w (.c (.b (.k 1))), st)
  | _ => none
theorem closedB_case {g : Sg} {f : FuncId} (hc : ∀ w, Calls Try.prog f #[] w fun e w' => e = .returned (.bool true) ∧ Below w.heap.size w w') : CaseOk g f closedB := fun args st v st' h hg => by
  unfold closedB at h
  split at h
  · cases h
    refine ⟨hg, fun r w vs hI hv => ?_⟩
    match vs, hv with
    | [], _ =>
      refine (hc w).mono fun e w' hp => ?_
      obtain ⟨rfl, hb⟩ := hp
      exact ⟨r, _, rfl, mk_b r (.k 1), (below_mem hI hb).1, (below_mem hI hb).2⟩
  · cases h
def sumsB11 : Sum := orS (one 87 closedB) sumsBi
theorem sumsB11_ok (g : Sg) : CallOk Try.prog U g sumsB11 := orS_ok (one_ok (closedB_case fun w => closed_true namesOk mixed sumsBi_ok _ _ aw11_ran w)) (sumsBi_ok g)
end
end Go.Proofs.Ytplffehgjdinnaa.SX
namespace Go.Proofs.Ytplffehgjdinnaa
open Go Go.RowKit
theorem awake11_any (w : World) : Calls Try.prog 87 #[] w fun e w' => e = .returned (.bool true) ∧ Below w.heap.size w w' :=
  SX.closed_true SX.namesOk SX.mixed SX.sumsBi_ok _ _ SX.aw11_ran w
end Go.Proofs.Ytplffehgjdinnaa
