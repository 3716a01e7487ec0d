/- Proved here: sines, cosines and angles of any numbers are what the document says, with the flag; no condition. -/
import Derived.Test.YtdgapclgapjhiaaTrigSaysL
import Derived.Test.YtdgapclgapjhiaaLift
namespace Go.Proofs.Ytdgapclgapjhiaa.trigSays
open Go SX
theorem walk (a : Int) (wa : (Lit.int .i64 a).wf = true) (x : Int) (wx : (Lit.int .i64 x).wf = true) (y : Int) (wy : (Lit.int .i64 y).wf = true) (w : World) :
    Calls Try.prog 11 #[.int .i64 a, .int .i64 x, .int .i64 y] w fun e w' => e = .returned (.bool true) ∧ RowKit.Below w.heap.size w w' := by
  have ia : inK .i64 a := inK_i64.2 (wf_i64 wa)
  have ix : inK .i64 x := inK_i64.2 (wf_i64 wx)
  have iy : inK .i64 y := inK_i64.2 (wf_i64 wy)
  exact law_true namesOk mixed (fun g => sums2_ok g) ran (fun i => match i with | 0 => a | 1 => x | _ => y) [.int .i64 a, .int .i64 x, .int .i64 y] ⟨⟨rfl, ia⟩, ⟨rfl, ix⟩, ⟨rfl, iy⟩, trivial⟩ w
end Go.Proofs.Ytdgapclgapjhiaa.trigSays
