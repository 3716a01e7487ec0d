/- The document's own covariances; slices grown. -/
import Derived.Test.YtadeadpcpgfkbaaPE
import Derived.Test.YtadeadpcpgfkbaaRN
import Derived.Test.YtadeadpcpgfkbaaTRX
import Derived.Deep.AppendLies
import Derived.Deep.DeepCutAuto
import Derived.Deep.RegionLaw
import Derived.Maps.AppendAt
import Derived.OwnWalk

/- Own -/
namespace Go.Proofs.Ytadeadpcpgfkbaa
open Go.RowKit

def intsL (n : Nat) (xs : Nat → Int) : List Value := (List.range n).map fun i => .int .i64 (xs i)
theorem intsL_get {n : Nat} (xs : Nat → Int) {j : Nat} (h : j < n) : (intsL n xs)[j]? = some (.int .i64 (xs j)) := by simp [intsL, h]
structure OwnI (w : World) (e : TypeId) (base : Nat) (v : Value) (n : Nat) (xs : Nat → Int) : Prop where
  row : w.ownsRow base e 1 v n (intsL n xs)
theorem OwnI.nil (w : World) (e : TypeId) (base : Nat) (xs : Nat → Int) : OwnI w e base (.slice none 0 0) 0 xs := ⟨World.ownsRow_nil w base e 1⟩
theorem OwnI.blk {w : World} {e : TypeId} {base n : Nat} {v : Value} {xs : Nat → Int} (h : OwnI w e base v n xs) {k : Nat} (hk : v.ownBlock = some k) : base ≤ k ∧ k < w.heap.size := h.row.lt k hk
theorem OwnI.keep {w w' : World} {e : TypeId} {base n : Nat} {v : Value} {xs : Nat → Int} (h : OwnI w e base v n xs) (hk : ∀ k, v.ownBlock = some k → w'.heap[k]? = w.heap[k]?) : OwnI w' e base v n xs := by
  refine ⟨h.row.1, ?_⟩
  rcases h.row.2 with hn | ⟨g, cap, cur, rfl, hb, hg, hr⟩
  · exact .inl hn
  · exact .inr ⟨g, cap, cur, rfl, hb, (hk g rfl).trans hg, hr⟩
theorem OwnI.call {w w' : World} {e : TypeId} {base n : Nat} {v : Value} {xs : Nat → Int} (h : OwnI w e base v n xs) (hb : Below w.heap.size w w') : OwnI w' e base v n xs :=
  h.keep fun _ hk => hb.block _ (h.blk hk).2
theorem OwnI.drew {w : World} {e : TypeId} {base n : Nat} {v : Value} {xs : Nat → Int} (h : OwnI w e base v n xs) : OwnI w.drew e base v n xs := h.keep fun _ _ => rfl
theorem OwnI.alloc {w : World} {e : TypeId} {base n : Nat} {v : Value} {xs : Nat → Int} (h : OwnI w e base v n xs) (o : Obj) : OwnI (w.alloc o) e base v n xs := h.call ((Below.refl _ _).alloc (Nat.le_refl _) o)
theorem OwnI.flag {w w' : World} {e : TypeId} {base n p o : Nat} {g : Bool} {v : Value} {xs : Nat → Int} (h : OwnI w e base v n xs) (hp : p < base) (k : FlW p o g w w') : OwnI w' e base v n xs :=
  h.keep fun _ hk => k.block (h.blk hk).2 (by have := (h.blk hk).1; omega)
theorem OwnI.grown {w w' : World} {e : TypeId} {base n : Nat} {v : Value} {xs : Nat → Int} {r : Option Nat} (h : OwnI w e base v n xs) (hg : w.grownBy w' r) (hr : ∀ k, v.ownBlock = some k → r ≠ some k) : OwnI w' e base v n xs :=
  h.keep fun _ hk => hg.block _ (h.blk hk).2 (fun e => hr _ hk e.symm)
theorem OwnI.cells {w : World} {e : TypeId} {base n : Nat} {v : Value} {xs : Nat → Int} (h : OwnI w e base v n xs) (hn : 0 < n) : ∃ g cap, v = .slice (some ⟨g, 0, none⟩) n cap ∧ base ≤ g ∧ g < w.heap.size ∧ n ≤ cap ∧ cap ≤ maxLen ∧ Ints w g 0 n xs := by
  rcases h.row.2 with ⟨_, h0⟩ | ⟨g, cap, cur, hv, hb, hg, hc, hm, hs, ht⟩
  · omega
  · have hg' : Blk w g cur e := hg
    refine ⟨g, cap, hv, hb, hg'.lt, hc, hm, ⟨fun i hi => ?_⟩⟩
    have := h.row.cells (g := g) (by rw [hv]; rfl) i _ (intsL_get xs hi)
    rwa [show ((⟨g, 0, none⟩ : Addr).add i) = ⟨g, 0 + i, none⟩ from Addr.add_mid g 0 i] at this
theorem FlW.grown {p o : Nat} {h : Bool} {w w1 w2 : World} {r : Option Nat} (k : FlW p o h w w1) (hg : w1.grownBy w2 r) (hr : ∀ g, r = some g → w.heap.size ≤ g) : FlW p o h w w2 :=
  ⟨Below.grown k.out hg k.size hr⟩
section
variable {P : Program} (w : World)
end
end Go.Proofs.Ytadeadpcpgfkbaa

/- TriF -/
namespace Go.Proofs.Ytadeadpcpgfkbaa
open Go.RowKit

end Go.Proofs.Ytadeadpcpgfkbaa

/- TriH -/
namespace Go.Proofs.Ytadeadpcpgfkbaa
open Go.RowKit

theorem numInfo : (Try.prog.info? 2).map (fun i => (i.zero, i.size, i.bytes)) = some (some (.int .i64 0), 1, 8) := by kernel_rfl
end Go.Proofs.Ytadeadpcpgfkbaa
