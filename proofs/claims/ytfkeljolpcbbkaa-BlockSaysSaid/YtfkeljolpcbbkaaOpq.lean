/- A covariance's type behind a name, so that a walk does not open what it reads number by number. -/
import Derived.Test.YtfkeljolpcbbkaaTRX
import Derived.Test.YtfkeljolpcbbkaaRowE
namespace Go.Proofs.Ytfkeljolpcbbkaa
open Go.RowKit

theorem covFlat : SX.flatOk Try.prog 93 = some (List.replicate 300 true) := by kernel_rfl
structure Opq (T : TypeId) (N : Nat) : Prop where
  is : 93 = T
  agg : ∀ w, Sem.run Try.prog (isAgg T) w = .ok true w
  size : ∀ w, Sem.run Try.prog (sizeOf T) w = .ok N w
  load : ∀ w b f, Blk w b (rowA 300 f) 93 → Sem.run Try.prog (loadCellsFrom ⟨b, 0, none⟩ 0 N #[]) w = .ok (rowA 300 f) w
  guard : ∀ f g op x y w, Sem.run Try.prog (eqGuard op T x y (.agg (rowA 300 f)) (.agg (rowA 300 g))) w = .ok () w
  eql : ∀ f g w, Sem.run Try.prog (binOp .eql T (.agg (rowA 300 f)) (.agg (rowA 300 g))) w = .ok (.bool (eqB 300 f g)) w
  neq : ∀ f g w, Sem.run Try.prog (binOp .neq T (.agg (rowA 300 f)) (.agg (rowA 300 g))) w = .ok (.bool (!eqB 300 f g)) w
  eqv : ∀ f g w, Sem.run Try.prog (Op.equal T (.agg (rowA 300 f)) (.agg (rowA 300 g))) w = .ok (eqB 300 f g) w
end Go.Proofs.Ytfkeljolpcbbkaa
