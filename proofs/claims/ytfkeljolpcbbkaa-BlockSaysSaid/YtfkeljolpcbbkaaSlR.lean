/- Together. -/
import Derived.Test.YtfkeljolpcbbkaaBlkD
import Derived.Test.YtfkeljolpcbbkaaLNU
import Derived.Test.YtfkeljolpcbbkaaPE

/- Sl -/
namespace Go.Proofs.Ytfkeljolpcbbkaa
open Go.ChangeShapes Go.WideShapes Go.ChangeAt Go.RowKit

inductive SlI (w : World) (N : Nat) (v : Value) (n : Nat) (xs : Nat → Int) : Prop where
  | none (hn : n = 0) (hv : v = .slice none 0 0) : SlI w N v n xs
  | empty (A : Addr) (c : Nat) (hn : n = 0) (hv : v = .slice (some A) 0 c) : SlI w N v n xs
  | full (b ob c : Nat) (hn : 0 < n) (hv : v = .slice (some ⟨b, ob, .none⟩) n c) (hc : n ≤ c) (hm : c ≤ 9223372036854775807) (hb : b < N) (hx : Ints w b ob n xs) : SlI w N v n xs
section
variable {H : Type} {enc : TypeId × Value → H} {P : Program} {W : World}
theorem open_sl {r : Reach} {b0 : Nat} {t e : TypeId} {v : Value} {d : DataW H} {ps : List MemPlace} (ht : P.underlying t = some (.slice e)) (he : P.underlying e = some (.int .i64)) (hc : P.cellsOf e = 1)
    (hval : Value.okWide P W r b0 t v) (hd : DataW.Trod enc P W 0 (fun _ => true) true t v d ps) : ∃ (n : Nat) (xs : Nat → Int), SlI W W.heap.size v n xs ∧ ∀ i, -9223372036854775808 ≤ xs i ∧ xs i ≤ 9223372036854775807 := by
  obtain ⟨a, len, cap, rfl⟩ := okWide_slice ht hval
  obtain ⟨fuel, hf⟩ := hd
  rcases open_ints ht he hc hf with ⟨hcs, hx⟩ | ⟨a', len', cap', zs, hcs, _, hl, hm, hz, hx, hcell, hwz⟩
  · simp [Value.cells] at hcs
    obtain ⟨rfl, rfl, rfl⟩ := hcs
    exact ⟨0, fun _ => 0, .none rfl rfl, fun _ => by show (-9223372036854775808 : Int) ≤ 0 ∧ (0 : Int) ≤ 9223372036854775807; omega⟩
  · simp [Value.cells] at hcs
    obtain ⟨rfl, rfl, rfl⟩ := hcs
    simp only [if_true] at hz
    have hbd : ∀ i, -9223372036854775808 ≤ zs.getD i 0 ∧ zs.getD i 0 ≤ 9223372036854775807 := fun i => by
      by_cases hi : i < zs.length
      · have : zs.getD i 0 = zs[i] := by simp [List.getD, hi]
        rw [this]
        exact wf_i64 (hwz _ (List.getElem_mem hi))
      · have : zs.getD i 0 = 0 := by simp [List.getD, List.getElem?_eq_none (by omega : zs.length ≤ i)]
        rw [this]; omega
    rcases Nat.eq_zero_or_pos len with h0 | h0
    · subst h0
      exact ⟨0, fun i => zs.getD i 0, .empty a' cap rfl rfl, hbd⟩
    · obtain ⟨b, off, rfl, hc2⟩ := ints_at hcell (by omega)
      have hlt : b < W.heap.size := World.block_lt_of_cell? W ⟨b, off + 0, none⟩ (hc2 0 (by omega))
      unfold maxLen at hm
      exact ⟨len, fun i => zs.getD i 0, .full b off cap h0 rfl hl (by omega) hlt ⟨fun i hi => hc2 i (by omega)⟩, hbd⟩
end
end Go.Proofs.Ytfkeljolpcbbkaa

/- SlQ -/
namespace Go.Proofs.Ytfkeljolpcbbkaa
open Go.RowKit
theorem sl_of {w : World} {v : Value} {n : Nat} {xs : Nat → Int} (h : SlI w w.heap.size v n xs) : ∃ pa c, v = .slice pa n c ∧ n ≤ 9223372036854775807 ∧ SlP w w.heap.size pa n xs := by
  cases h with
  | none hn hv => subst hn; exact ⟨_, _, hv, by omega, fun h => by omega⟩
  | empty A c hn hv => subst hn; exact ⟨_, _, hv, by omega, fun h => by omega⟩
  | full b ob c hn hv hc hm hb hx => exact ⟨_, _, hv, by omega, fun _ => ⟨b, ob, rfl, by omega, hb, hx⟩⟩
end Go.Proofs.Ytfkeljolpcbbkaa
