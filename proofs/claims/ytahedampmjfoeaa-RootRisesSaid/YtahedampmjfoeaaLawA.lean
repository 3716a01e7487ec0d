/- What several laws of layer 1 share: a sum of two, products and comparisons under a name, a number as the document's own, and held against it. -/
import Derived.Test.YtahedampmjfoeaaAwake
import Derived.Test.YtahedampmjfoeaaRefD
namespace Go.Proofs.Ytahedampmjfoeaa
open Go.RowKit

theorem W_of (h l : Int) (l0 : 0 ≤ l) (l1 : l < 18446744073709551616) : Value.agg #[.int .i64 h, .int .u64 l] = Wv (h * 18446744073709551616 + l) :=
  agg2 (by unfold wh; omega) (by unfold wl; omega)
theorem W_in (h l : Int) (h0 : -9223372036854775808 ≤ h) (h1 : h ≤ 9223372036854775807) (l0 : 0 ≤ l) (l1 : l < 18446744073709551616) : InW (h * 18446744073709551616 + l) := ⟨by omega, by omega⟩
theorem wmul_at (a b v : Int) (w : World) (a1 : -9223372036854775808 ≤ a) (a2 : a ≤ 9223372036854775807) (b1 : -9223372036854775808 ≤ b) (b2 : b ≤ 9223372036854775807) (hv : a * b = v) :
    Calls Try.prog 15 #[.int .i64 a, .int .i64 b] w fun e w' => e = .returned (Wv v) ∧ Below w.heap.size w w' := by
  subst hv; exact wmul_any a b w a1 a2 b1 b2
theorem wcmp_is (x y c : Int) (w : World) (hc : cmpI x y = c) :
    Calls Try.prog 22 #[Wv x, Wv y] w fun e w' => e = .returned (.int .i64 c) ∧ Below w.heap.size w w' := by
  subst hc; exact wcmp_any x y w
def pairF (x y : Int) (i : Nat) : Int := if i = 0 then x else y
theorem wadd_two (b : Nat) (x y : Int) (w : World) (hb : b < w.heap.size) (hx : InW x) (hy : InW y) (hs : InW (x + y))
    (h0 : w.cell? ⟨b, 0, none⟩ = some (.int .i64 (wh x))) (h1 : w.cell? ⟨b, 1, none⟩ = some (.int .u64 (wl x))) (h2 : w.cell? ⟨b, 2, none⟩ = some (.int .i64 (wh y))) (h3 : w.cell? ⟨b, 3, none⟩ = some (.int .u64 (wl y))) :
    Calls Try.prog 24 #[.slice (some ⟨b, 0, none⟩) 2 2] w fun e w' => e = .returned (.tuple #[Wv (x + y), .bool true]) ∧ Below w.heap.size w w' := by
  have e0 : accum (pairF x y) 0 = 0 := rfl
  have e1 : accum (pairF x y) 1 = x := by show 0 + x = x; omega
  have e2 : accum (pairF x y) 2 = x + y := by show accum (pairF x y) 1 + y = _; rw [e1]
  have hin : ∀ k, k ≤ 2 → InW (accum (pairF x y) k) := fun k hk => by
    match k, hk with
    | 0, _ => rw [e0]; exact inW_zero
    | 1, _ => rw [e1]; exact hx
    | 2, _ => rw [e2]; exact hs
  have htw : ∀ i, i < 2 → InW (pairF x y i) := fun i hi => by
    match i, hi with
    | 0, _ => exact hx
    | 1, _ => exact hy
  have hc : Holds w b 0 2 (pairF x y) := ⟨fun i hi => by
    match i, hi with
    | 0, _ => exact h0
    | 1, _ => exact h2, fun i hi => by
    match i, hi with
    | 0, _ => exact h1
    | 1, _ => exact h3⟩
  refine (wadd_any b 0 2 2 2 (pairF x y) w (by decide) hb htw (Nat.le_refl _) hin (.inl rfl) hc).mono fun e w' ⟨he, hb'⟩ => ⟨he.trans (ret_val ?_), hb'⟩
  rw [show addRes (pairF x y) 2 2 = .tuple #[Wv (accum (pairF x y) 2), .bool true] from rfl, e2]
/-- The four cells of a slice of two numbers that was just made. -/
theorem two_cells (w : World) (x y : Int) (t : TypeId) : let W := w.alloc (.cells #[.int .i64 (wh x), .int .u64 (wl x), .int .i64 (wh y), .int .u64 (wl y)] t)
    W.cell? ⟨w.heap.size, 0, none⟩ = some (.int .i64 (wh x)) ∧ W.cell? ⟨w.heap.size, 1, none⟩ = some (.int .u64 (wl x)) ∧ W.cell? ⟨w.heap.size, 2, none⟩ = some (.int .i64 (wh y)) ∧ W.cell? ⟨w.heap.size, 3, none⟩ = some (.int .u64 (wl y)) := by
  intro W
  have h : W.heap[w.heap.size]? = some (.cells #[.int .i64 (wh x), .int .u64 (wl x), .int .i64 (wh y), .int .u64 (wl y)] t (0, 0)) := heap_alloc_new w _
  exact ⟨by rw [cell_of_row W _ _ _ _ _ h]; rfl, by rw [cell_of_row W _ _ _ _ _ h]; rfl, by rw [cell_of_row W _ _ _ _ _ h]; rfl, by rw [cell_of_row W _ _ _ _ _ h]; rfl⟩
theorem wadd_made (N : Nat) (t : TypeId) (x y : Int) (w : World) (hN : w.heap.size = N) (hx : InW x) (hy : InW y) (hs : InW (x + y)) :
    Calls Try.prog 24 #[.slice (some ⟨N, 0, none⟩) 2 2] (w.alloc (.cells #[.int .i64 (wh x), .int .u64 (wl x), .int .i64 (wh y), .int .u64 (wl y)] t)) fun e w' => e = .returned (.tuple #[Wv (x + y), .bool true]) ∧ Below w.heap.size w w' := by
  subst hN
  obtain ⟨h0, h1, h2, h3⟩ := two_cells w x y t
  refine (wadd_two w.heap.size x y _ (by simp) hx hy hs h0 h1 h2 h3).mono fun e w' ⟨he, hb⟩ => ⟨he, ?_⟩
  exact ((Below.refl _ _).alloc (Nat.le_refl _) _).trans (hb.mono (by simp))
theorem wide_at (hi lo z : Int) (w : World) (h1 : -9223372036854775808 ≤ hi) (h2 : hi ≤ 9223372036854775807) (l1 : 0 ≤ lo) (l2 : lo < 18446744073709551616) (hz : hi * 18446744073709551616 + lo = z) :
    Calls Try.prog 64 #[.int .i64 hi, .int .u64 lo] w fun e w' => e = .returned (Bg z) ∧ Below w.heap.size w w' := by
  subst hz; exact wide_any hi lo w h1 h2 l1 l2
end Go.Proofs.Ytahedampmjfoeaa
