/- Package thornton: its parts. -/
import Derived.Deep.RegionLaw
import Derived.OwnWalk
import Derived.Test.YtfkeljolpcbbkaaRN
import Derived.Test.YtfkeljolpcbbkaaTRX
import Derived.Laws.IdiomCopy
import Derived.Laws.MakeOwn

/- ThoA -/
namespace Go.Proofs.Ytfkeljolpcbbkaa
open Go.RowKit

theorem Fl.row {p o B : Nat} {h : Bool} {w : World} (f : Fl p o h w) (hB : B ≠ p) (d : Array Value) : Fl p o h (w.setRow B d) := by
  have hb : (w.setRow B d).heap[p]? = w.heap[p]? := setRow_other w B p d (by omega)
  refine ⟨?_, ?_, by rw [setRow_size]; exact f.lt⟩
  · have := f.cell
    unfold World.cell? at this ⊢
    rw [show (⟨p, o, none⟩ : Addr).block = p from rfl] at *
    rw [hb]; exact this
  · have := f.free
    unfold World.frozen? at this ⊢
    rw [show (⟨p, o, none⟩ : Addr).block = p from rfl] at *
    rw [hb]; exact this
end Go.Proofs.Ytfkeljolpcbbkaa

/- ThoZ -/
namespace Go.Proofs.Ytfkeljolpcbbkaa
open Go.RowKit

end Go.Proofs.Ytfkeljolpcbbkaa

/- ThoB -/
namespace Go.Proofs.Ytfkeljolpcbbkaa
open Go.RowKit

end Go.Proofs.Ytfkeljolpcbbkaa

/- Copy -/
namespace Go.Proofs.Ytfkeljolpcbbkaa
open Go.RowKit

theorem FlW.put {p o B : Nat} {h : Bool} {w w1 : World} (k : FlW p o h w w1) (hB : w.heap.size ≤ B) (q : Nat) (l : List Value) : FlW p o h w (w1.setCells B q l) := ⟨Below.setCells hB l q w1 k.out⟩
def putR (w : World) (B n : Nat) (f : Nat → Int) : World := w.setCells B 0 (((List.range n).map f).map (Value.int .i64))
theorem FlW.putR {p o B n : Nat} {f : Nat → Int} {h : Bool} {w w1 : World} (k : FlW p o h w w1) (hB : w.heap.size ≤ B) : FlW p o h w (putR w1 B n f) := k.put hB 0 _
section
variable {P : Program} (w : World)
end
end Go.Proofs.Ytfkeljolpcbbkaa

/- ThoC -/
namespace Go.Proofs.Ytfkeljolpcbbkaa
open Go.RowKit

def upTo (f : Nat → Int) (t : Nat) : Nat → Int := fun k => if k < t then f k else 0
end Go.Proofs.Ytfkeljolpcbbkaa

/- ThoD -/
namespace Go.Proofs.Ytfkeljolpcbbkaa
open Go.RowKit

end Go.Proofs.Ytfkeljolpcbbkaa

/- ThoE -/
namespace Go.Proofs.Ytfkeljolpcbbkaa
open Go.RowKit

end Go.Proofs.Ytfkeljolpcbbkaa

/- ThoG -/
namespace Go.Proofs.Ytfkeljolpcbbkaa
open Go.RowKit

end Go.Proofs.Ytfkeljolpcbbkaa

/- ThoF -/
namespace Go.Proofs.Ytfkeljolpcbbkaa
open Go.RowKit

end Go.Proofs.Ytfkeljolpcbbkaa
