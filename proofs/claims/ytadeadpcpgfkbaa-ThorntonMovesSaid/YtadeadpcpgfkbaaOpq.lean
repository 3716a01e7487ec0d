/- A covariance's type behind a name, so that a walk does not open what it reads number by number. -/
import Derived.Test.YtadeadpcpgfkbaaTRX
import Derived.Test.YtadeadpcpgfkbaaRowE
namespace Go.Proofs.Ytadeadpcpgfkbaa
open Go.RowKit

theorem covFlat : SX.flatOk Try.prog 29 = some (List.replicate 300 true) := by kernel_rfl
theorem load_row_from {w : World} {b n : Nat} {f : Nat → Int} {t : TypeId} (P : Program) (h : Blk w b (rowA n f) t) : Sem.run P (loadCellsFrom ⟨b, 0, none⟩ 0 n #[]) w = .ok (rowA n f) w := by
  have hl := run_loadCells_list (P := P) w ⟨b, 0, none⟩ (rowA n f).toList (fun j v hv => by
    rw [show ((⟨b, 0, none⟩ : Addr).add j) = ⟨b, 0 + j, none⟩ from Addr.add_mid b 0 j, Nat.zero_add, h.cell]
    simpa using hv)
  rw [Array.length_toList, rowA_size] at hl
  simpa [loadCells] using hl
theorem Fl.far {p o q o' : Nat} {h g : Bool} {w w' : World} (f : Fl p o h w) (k : FlW q o' g w w') (hne : p ≠ q) : Fl p o h w' :=
  ⟨(k.cell f.lt (.inl hne)).trans f.cell, (k.frozen f.lt).trans f.free, Nat.lt_of_lt_of_le f.lt k.size⟩
structure Opq (T : TypeId) (N : Nat) : Prop where
  is : 29 = T
  agg : ∀ w, Sem.run Try.prog (isAgg T) w = .ok true w
  size : ∀ w, Sem.run Try.prog (sizeOf T) w = .ok N w
  load : ∀ w b f, Blk w b (rowA 300 f) 29 → Sem.run Try.prog (loadCellsFrom ⟨b, 0, none⟩ 0 N #[]) w = .ok (rowA 300 f) w
  guard : ∀ f g op x y w, Sem.run Try.prog (eqGuard op T x y (.agg (rowA 300 f)) (.agg (rowA 300 g))) w = .ok () w
  eql : ∀ f g w, Sem.run Try.prog (binOp .eql T (.agg (rowA 300 f)) (.agg (rowA 300 g))) w = .ok (.bool (eqB 300 f g)) w
  neq : ∀ f g w, Sem.run Try.prog (binOp .neq T (.agg (rowA 300 f)) (.agg (rowA 300 g))) w = .ok (.bool (!eqB 300 f g)) w
  eqv : ∀ f g w, Sem.run Try.prog (Op.equal T (.agg (rowA 300 f)) (.agg (rowA 300 g))) w = .ok (eqB 300 f g) w
theorem opq : ∃ T N, Opq T N := by
  refine ⟨_, 300, rfl, fun w => by kernel_rfl, fun w => by kernel_rfl, fun w b f h => load_row_from _ h, fun f g op x y w => guard_row covFlat f g w op x y, fun f g w => eql_row covFlat f g w, fun f g w => neq_row covFlat f g w, fun f g w => equal_row covFlat f g w⟩
end Go.Proofs.Ytadeadpcpgfkbaa
