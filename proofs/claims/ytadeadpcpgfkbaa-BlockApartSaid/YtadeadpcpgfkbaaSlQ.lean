/- Slices of whole numbers that come in, told by address, length, capacity. -/
import Derived.Test.YtadeadpcpgfkbaaSl
import Derived.Test.YtadeadpcpgfkbaaBlkD
namespace Go.Proofs.Ytadeadpcpgfkbaa
open Go.RowKit
theorem sl_of {w : World} {v : Value} {n : Nat} {xs : Nat → Int} (h : SlI w w.heap.size v n xs) : ∃ pa c, v = .slice pa n c ∧ n ≤ 9223372036854775807 ∧ SlP w w.heap.size pa n xs := by
  cases h with
  | none hn hv => subst hn; exact ⟨_, _, hv, by omega, fun h => by omega⟩
  | empty A c hn hv => subst hn; exact ⟨_, _, hv, by omega, fun h => by omega⟩
  | full b ob c hn hv hc hm hb hx => exact ⟨_, _, hv, by omega, fun _ => ⟨b, ob, rfl, by omega, hb, hx⟩⟩
end Go.Proofs.Ytadeadpcpgfkbaa
