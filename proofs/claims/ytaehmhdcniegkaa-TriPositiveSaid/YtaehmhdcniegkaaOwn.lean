/- Slices of whole numbers that a call makes by append, one number at a time. Nothing of a program is used. -/
import Derived.Test.YtaehmhdcniegkaaRowA
import Derived.Maps.AppendAt
import Derived.Deep.AppendLies
import Derived.Deep.RegionLaw
import Derived.OwnWalk
namespace Go.Proofs.Ytaehmhdcniegkaa
open Go.RowKit

def intsL (n : Nat) (xs : Nat → Int) : List Value := (List.range n).map fun i => .int .i64 (xs i)
theorem intsL_len (n : Nat) (xs : Nat → Int) : (intsL n xs).length = n := by simp [intsL]
theorem intsL_get {n : Nat} (xs : Nat → Int) {j : Nat} (h : j < n) : (intsL n xs)[j]? = some (.int .i64 (xs j)) := by simp [intsL, h]
theorem intsL_next (n : Nat) (xs : Nat → Int) : intsL n xs ++ [.int .i64 (xs n)] = intsL (n + 1) xs := by simp [intsL, List.range_succ]
/-- v is nil, or lies at the head of a block of the call's own (not below base); its n numbers are xs. -/
structure OwnI (w : World) (e : TypeId) (base : Nat) (v : Value) (n : Nat) (xs : Nat → Int) : Prop where
  row : w.ownsRow base e 1 v n (intsL n xs)
theorem OwnI.nil (w : World) (e : TypeId) (base : Nat) (xs : Nat → Int) : OwnI w e base (.slice none 0 0) 0 xs := ⟨World.ownsRow_nil w base e 1⟩
theorem OwnI.blk {w : World} {e : TypeId} {base n : Nat} {v : Value} {xs : Nat → Int} (h : OwnI w e base v n xs) {k : Nat} (hk : v.ownBlock = some k) : base ≤ k ∧ k < w.heap.size := h.row.lt k hk
theorem OwnI.keep {w w' : World} {e : TypeId} {base n : Nat} {v : Value} {xs : Nat → Int} (h : OwnI w e base v n xs) (hk : ∀ k, v.ownBlock = some k → w'.heap[k]? = w.heap[k]?) : OwnI w' e base v n xs := by
  refine ⟨h.row.1, ?_⟩
  rcases h.row.2 with hn | ⟨g, cap, cur, rfl, hb, hg, hr⟩
  · exact .inl hn
  · exact .inr ⟨g, cap, cur, rfl, hb, (hk g rfl).trans hg, hr⟩
theorem OwnI.call {w w' : World} {e : TypeId} {base n : Nat} {v : Value} {xs : Nat → Int} (h : OwnI w e base v n xs) (hb : Below w.heap.size w w') : OwnI w' e base v n xs :=
  h.keep fun _ hk => hb.block _ (h.blk hk).2
theorem OwnI.drew {w : World} {e : TypeId} {base n : Nat} {v : Value} {xs : Nat → Int} (h : OwnI w e base v n xs) : OwnI w.drew e base v n xs := h.keep fun _ _ => rfl
theorem OwnI.alloc {w : World} {e : TypeId} {base n : Nat} {v : Value} {xs : Nat → Int} (h : OwnI w e base v n xs) (o : Obj) : OwnI (w.alloc o) e base v n xs := h.call ((Below.refl _ _).alloc (Nat.le_refl _) o)
theorem OwnI.flag {w w' : World} {e : TypeId} {base n p o : Nat} {g : Bool} {v : Value} {xs : Nat → Int} (h : OwnI w e base v n xs) (hp : p < base) (k : FlW p o g w w') : OwnI w' e base v n xs :=
  h.keep fun _ hk => k.block (h.blk hk).2 (by have := (h.blk hk).1; omega)
theorem OwnI.grown {w w' : World} {e : TypeId} {base n : Nat} {v : Value} {xs : Nat → Int} {r : Option Nat} (h : OwnI w e base v n xs) (hg : w.grownBy w' r) (hr : ∀ k, v.ownBlock = some k → r ≠ some k) : OwnI w' e base v n xs :=
  h.keep fun _ hk => hg.block _ (h.blk hk).2 (fun e => hr _ hk e.symm)
theorem OwnI.cells {w : World} {e : TypeId} {base n : Nat} {v : Value} {xs : Nat → Int} (h : OwnI w e base v n xs) (hn : 0 < n) : ∃ g cap, v = .slice (some ⟨g, 0, none⟩) n cap ∧ base ≤ g ∧ g < w.heap.size ∧ n ≤ cap ∧ cap ≤ maxLen ∧ Ints w g 0 n xs := by
  rcases h.row.2 with ⟨_, h0⟩ | ⟨g, cap, cur, hv, hb, hg, hc, hm, hs, ht⟩
  · omega
  · have hg' : Blk w g cur e := hg
    refine ⟨g, cap, hv, hb, hg'.lt, hc, hm, ⟨fun i hi => ?_⟩⟩
    have := h.row.cells (g := g) (by rw [hv]; rfl) i _ (intsL_get xs hi)
    rwa [show ((⟨g, 0, none⟩ : Addr).add i) = ⟨g, 0 + i, none⟩ from Addr.add_mid g 0 i] at this
theorem FlW.grown {p o : Nat} {h : Bool} {w w1 w2 : World} {r : Option Nat} (k : FlW p o h w w1) (hg : w1.grownBy w2 r) (hr : ∀ g, r = some g → w.heap.size ≤ g) : FlW p o h w w2 :=
  ⟨Below.grown k.out hg k.size hr⟩
theorem cell_grown {w w' : World} {r : Option Nat} {b i : Nat} (hg : w.grownBy w' r) (hb : b < w.heap.size) (hr : r ≠ some b) : w'.cell? ⟨b, i, none⟩ = w.cell? ⟨b, i, none⟩ :=
  World.cell?_of_block (a := ⟨b, i, none⟩) (hg.block b hb (fun e => hr e.symm))
section
variable {P : Program} (w : World)
theorem run_own (t ty e : TypeId) (ht : P.underlying t = some (.slice e)) (hi : (P.info? e).map (fun i => (i.zero, i.size, i.bytes)) = some (some (.int .i64 0), 1, 8))
    (base n : Nat) (v : Value) (xs : Nat → Int) (hown : OwnI w e base v n xs) (B c : Nat) (hz : w.cell? ⟨B, 0, none⟩ = some (.int .i64 (xs n))) (hn : n < 1000000) (hbase : base ≤ w.heap.size) :
    ∃ v' w', (Builtin.append_ #[t, t] ty #[v, .slice (some ⟨B, 0, none⟩) 1 c]).run P w = .ok v' w' ∧ OwnI w' e base v' (n + 1) xs ∧ w.grownBy w' v.ownBlock ∧ (v'.ownBlock = v.ownBlock ∨ v'.ownBlock = some w.heap.size) := by
  obtain ⟨i, h1, h2, h3, h4⟩ := info_parts hi
  obtain ⟨v', w', r1, r2, r3, _, r5⟩ := run_append_own_at (P := P) w base t ty e i (.int .i64 0) 1 8 ht h1 h2 h3 h4 rfl (by omega) v n _ hown.row ⟨B, 0, none⟩ 1 c [.int .i64 (xs n)] rfl
    (fun j u hu => by
      match j, hu with
      | 0, hu => injection hu with hu; subst hu; exact hz)
    (by simp [Value.oneCell']) (by unfold maxLen; omega) (by omega) hbase
  rw [intsL_next] at r2
  exact ⟨v', w', r1, ⟨r2⟩, r3, r5⟩
theorem own_append {ops : Array Oper} {rest : List Oper} {o : Oper} {a : Act} {Q : Exit → Act → World → Prop} (hgd : o.guard = none) (s x : Operand) (t : TypeId)
    (ho : o.op = .call { callee := .builtin .append, args := #[s, x], argTypes := #[t, t] }) (e : TypeId) (ht : P.underlying t = some (.slice e)) (hi : (P.info? e).map (fun i => (i.zero, i.size, i.bytes)) = some (some (.int .i64 0), 1, 8))
    (base n : Nat) (v : Value) (xs : Nat → Int) (hs : a.eval s = v) (hown : OwnI w e base v n xs) (B c : Nat) (hx : a.eval x = .slice (some ⟨B, 0, none⟩) 1 c) (hz : w.cell? ⟨B, 0, none⟩ = some (.int .i64 (xs n))) (hn : n < 1000000) (hbase : base ≤ w.heap.size)
    (h : ∀ v' w', OwnI w' e base v' (n + 1) xs → w.grownBy w' v.ownBlock → (v'.ownBlock = v.ownBlock ∨ v'.ownBlock = some w.heap.size) → wpList P ops Q rest (a.put o.dst v') w') : wpList P ops Q (o :: rest) a w := by
  refine wpList_plain hgd fun K hK => ?_
  obtain ⟨v', w', hr, h2, h3, h4⟩ := run_own (P := P) w t o.type e ht hi base n v xs hown B c hz hn hbase
  unfold Oper.wp execOp
  simp only [ho, resolve, invoke, builtin, Sem.run_bind, Sem.run_pure, Result.andThen_ok, List.map_toArray, List.map_cons, List.map_nil, hs, hx, hr]
  exact hK _ _ (h v' w' h2 h3 h4)
theorem step_own {ops : Array Oper} {o : Oper} {a : Act} {K : Act → World → Prop} {Q : Exit → Act → World → Prop} {E : Prop} (hgd : o.guard = none) (s x : Operand) (t : TypeId)
    (ho : o.op = .call { callee := .builtin .append, args := #[s, x], argTypes := #[t, t] }) (e : TypeId) (ht : P.underlying t = some (.slice e)) (hi : (P.info? e).map (fun i => (i.zero, i.size, i.bytes)) = some (some (.int .i64 0), 1, 8))
    (base n : Nat) (v : Value) (xs : Nat → Int) (hs : a.eval s = v) (hown : OwnI w e base v n xs) (B c : Nat) (hx : a.eval x = .slice (some ⟨B, 0, none⟩) 1 c) (hz : w.cell? ⟨B, 0, none⟩ = some (.int .i64 (xs n))) (hn : n < 1000000) (hbase : base ≤ w.heap.size)
    (h : ∀ v' w', OwnI w' e base v' (n + 1) xs → w.grownBy w' v.ownBlock → (v'.ownBlock = v.ownBlock ∨ v'.ownBlock = some w.heap.size) → K (a.put o.dst v') w') :
    if Region.wanted o (yielded ops a.tmps) = true then Oper.wp P o a w K Q else E := by
  have hw : Region.wanted o (yielded ops a.tmps) = true := by simp [Region.wanted, hgd]
  rw [if_pos hw]
  obtain ⟨v', w', hr, h2, h3, h4⟩ := run_own (P := P) w t o.type e ht hi base n v xs hown B c hz hn hbase
  unfold Oper.wp execOp
  simp only [ho, resolve, invoke, builtin, Sem.run_bind, Sem.run_pure, Result.andThen_ok, List.map_toArray, List.map_cons, List.map_nil, hs, hx, hr]
  exact h v' w' h2 h3 h4
end
end Go.Proofs.Ytaehmhdcniegkaa
