/- Rows of whole numbers, compared. -/
import Derived.Test.YtmpainhbmgabbaaRN
import Derived.Test.YtmpainhbmgabbaaSB
namespace Go.Proofs.Ytmpainhbmgabbaa
open Go.RowKit

theorem rowA_list (n : Nat) (f : Nat → Int) : rowA n f = ⟨((List.range n).map f).map (Value.int .i64)⟩ := by
  refine Array.ext_getElem? fun i => ?_
  by_cases hi : i < n
  · rw [rowA_get _ hi]; simp [hi]
  · rw [rowA_none _ (by omega)]; symm; simp; omega
section
variable {P : Program} {n : Nat} {ty : TypeId} (hf : SX.flatOk P ty = some (List.replicate n true)) (f g : Nat → Int) (w : World)
include hf
end
end Go.Proofs.Ytmpainhbmgabbaa
