/- A number out of its sign and its size. -/
import Derived.Test.YtahedampmjfoeaaMinus
import Derived.Test.YtahedampmjfoeaaPlus
import Derived.Test.YtahedampmjfoeaaInv
namespace Go.Proofs.Ytahedampmjfoeaa
open Go.RowKit
set_option maxHeartbeats 1000000 in
theorem made_no (n : Nat) (w : World) :
    Calls Try.prog 59 #[.bool false, A8 n] w fun e w' => e = .returned (BgR false n) ∧ Below w.heap.size w w' := by
  go_enter Try.func59, Try.ntmps59
  go_wp2
  go_region_with (fail)
  all_goals
    go_wp2
    exact bodyPost_ret (v := BgR false n) (by simp [results, Try.results59, go_sem]) rfl ⟨rfl, (((Below.refl _ _).alloc (by omega) _).alloc (by simp) _).drew⟩
/-- The block B holds a number with its sign. -/
def row9 (s : Bool) (f : Nat → Int) : Array Value := #[.bool s, .int .u64 (f 0), .int .u64 (f 1), .int .u64 (f 2), .int .u64 (f 3), .int .u64 (f 4), .int .u64 (f 5), .int .u64 (f 6), .int .u64 (f 7)]
def Has9 (w : World) (t : TypeId) (B : Nat) (s : Bool) (f : Nat → Int) : Prop := w.heap[B]? = some (.cells (row9 s f) t (0, 0))
theorem Has9.cells {w : World} {t : TypeId} {B : Nat} {s : Bool} {f : Nat → Int} (h : Has9 w t B s f) :
    w.cell? ⟨B, 0, none⟩ = some (.bool s) ∧ w.cell? ⟨B, 1, none⟩ = some (.int .u64 (f 0)) ∧ w.cell? ⟨B, 2, none⟩ = some (.int .u64 (f 1)) ∧ w.cell? ⟨B, 3, none⟩ = some (.int .u64 (f 2)) ∧ w.cell? ⟨B, 4, none⟩ = some (.int .u64 (f 3)) ∧
    w.cell? ⟨B, 5, none⟩ = some (.int .u64 (f 4)) ∧ w.cell? ⟨B, 6, none⟩ = some (.int .u64 (f 5)) ∧ w.cell? ⟨B, 7, none⟩ = some (.int .u64 (f 6)) ∧ w.cell? ⟨B, 8, none⟩ = some (.int .u64 (f 7)) := by
  refine ⟨?_, ?_, ?_, ?_, ?_, ?_, ?_, ?_, ?_⟩ <;> (rw [cell_of_row w B _ _ t _ h]; rfl)
theorem Has9.free {w : World} {t : TypeId} {B : Nat} {s : Bool} {f : Nat → Int} (h : Has9 w t B s f) (j : Nat) : w.frozen? ⟨B, j, none⟩ = false := by
  simp [World.frozen?, show w.heap[B]? = _ from h]
theorem Has9.made_at (w : World) (t : TypeId) {B : Nat} (hB : w.heap.size = B) (s : Bool) (f : Nat → Int) : Has9 (w.alloc (.cells (row9 s f) t)) t B s f := by subst hB; exact heap_alloc_new w _

theorem Has9.lt {w : World} {t : TypeId} {B : Nat} {s : Bool} {f : Nat → Int} (h : Has9 w t B s f) : B < w.heap.size := by
  rcases Nat.lt_or_ge B w.heap.size with h1 | h1
  · exact h1
  · have := (Array.getElem?_eq_none_iff.2 h1).symm.trans h
    cases this
theorem Has9.alloc {w : World} {t : TypeId} {B : Nat} {s : Bool} {f : Nat → Int} (h : Has9 w t B s f) (o : Obj) : Has9 (w.alloc o) t B s f := by
  unfold Has9
  rw [Below.heap_alloc w o B h.lt]; exact h
set_option maxHeartbeats 1000000 in
theorem made_yes (n : Nat) (w : World) (hn : n < B8) :
    Calls Try.prog 59 #[.bool true, A8 n] w fun e w' => e = .returned (BgR (!decide (n = 0)) n) ∧ Below w.heap.size w w' := by
  go_enter Try.func59, Try.ntmps59
  go_wp2
  generalize hW : World.alloc (World.alloc w _) _ = W
  have f8 : Has8 W 29 w.heap.size (dg n) := by subst hW; exact (Has8.made _ _ _).alloc _
  have f9 : Has9 W 31 (w.heap.size + 1) false (fun _ => 0) := by subst hW; exact Has9.made_at (World.alloc w _) _ (B := w.heap.size + 1) (by simp) false (fun _ => 0)
  have hs : w.heap.size + 1 < W.heap.size := by subst hW; simp
  have hB : Below w.heap.size w W := by subst hW; exact ((Below.refl _ _).alloc (by omega) _).alloc (by simp) _
  clear hW
  have ht := there_of_row f9 9 (by decide)
  have h01 : w.heap.size ≠ w.heap.size + 1 := by omega
  obtain ⟨a0, a1, a2, a3, a4, a5, a6, a7⟩ := f8.cells
  have hs0 : w.heap.size < W.heap.size := by omega
  go_region_held3 (fun w' => Inv w W (w.heap.size + 1) 9 w')
    ((show Inv w W (w.heap.size + 1) 9 _; first | (with_reducible exact Inv.start ht hB) | (with_reducible refine Inv.set (by omega) _ _ ?_; (repeat refine Inv.set (by omega) _ _ ?_); assumption) | (with_reducible exact Inv.call hs (Nat.le_of_lt hs0) (by assumption) hb)))
    ((go_at_call 66; refine (zero_any n _ hn).mono ?_; rintro e w' ⟨rfl, hb⟩; obtain ⟨j1, j2, j3, j4, j5⟩ := Inv.call hs (Nat.le_of_lt hs0) (by assumption) hb))
  rename_i hI
  have HB := hI.2.2.2.1
  clear hI
  go_wp2
  exact bodyPost_ret (v := BgR (!decide (n = 0)) n) (by simp [results, Try.results59, go_sem, j2]) rfl ⟨rfl, HB⟩

def ng (b : Bool) (n : Nat) : Bool := b && !decide (n = 0)
/-- 'made': whatever the sign. -/
theorem made_of (b : Bool) (n : Nat) (V : Value) (w : World) (hn : n < B8) (hV : V = A8 n) :
    Calls Try.prog 59 #[.bool b, V] w fun e w' => e = .returned (BgR (ng b n) n) ∧ Below w.heap.size w w' := by
  subst hV
  cases b
  · exact (made_no n w).mono fun e w' h => h
  · exact (made_yes n w hn).mono fun e w' h => h
end Go.Proofs.Ytahedampmjfoeaa
