/- What the document tells of two variances (chapter 12), run once. -/
import Derived.Test.YtadeadpcpgfkbaaBlkT
import Derived.Test.YtadeadpcpgfkbaaSxY
namespace Go.Proofs.Ytadeadpcpgfkbaa.SX
open Go Go.RowKit
noncomputable section
set_option maxRecDepth 100000 in
theorem aw12_ran : trueB (runCall lk U X sumsBk 100000 40 17 [] st0) = true := by kernel_rfl
def closedK (args : List V) (st : St) : Option (V × St) := match args with
  | [] => some (.w (.c (.b (.k 1))), st)
  | _ => none
theorem closedK_case {g : Sg} {f : FuncId} (hc : ∀ w, Calls Try.prog f #[] w fun e w' => e = .returned (.bool true) ∧ Below w.heap.size w w') : CaseOk g f closedK := fun args st v st' h hg => by
  unfold closedK at h
  split at h
  · cases h
    refine ⟨hg, fun r w vs hI hv => ?_⟩
    match vs, hv with
    | [], _ =>
      refine (hc w).mono fun e w' hp => ?_
      obtain ⟨rfl, hb⟩ := hp
      exact ⟨r, _, rfl, mk_b r (.k 1), (below_mem hI hb).1, (below_mem hI hb).2⟩
  · cases h
def sumsK12 : Sum := orS (one 17 closedK) sumsBk
theorem sumsK12_ok (g : Sg) : CallOk Try.prog U g sumsK12 := orS_ok (one_ok (closedK_case fun w => closed_true namesOk mixed sumsBk_ok _ _ aw12_ran w)) (sumsBk_ok g)
end
end Go.Proofs.Ytadeadpcpgfkbaa.SX
namespace Go.Proofs.Ytadeadpcpgfkbaa
open Go Go.RowKit
theorem awake12_any (w : World) : Calls Try.prog 17 #[] w fun e w' => e = .returned (.bool true) ∧ Below w.heap.size w w' :=
  SX.closed_true SX.namesOk SX.mixed SX.sumsBk_ok _ _ SX.aw12_ran w
end Go.Proofs.Ytadeadpcpgfkbaa
