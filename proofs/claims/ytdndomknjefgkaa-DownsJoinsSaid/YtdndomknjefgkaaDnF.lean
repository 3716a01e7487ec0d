/- A sampler: new, put, what is pending. -/
import Derived.Test.YtdndomknjefgkaaDnE
namespace Go.Proofs.Ytdndomknjefgkaa.Rg
open Go.RowKit
/-- A sampler as ten numbers: target, time of the last, what is pending. -/
def pend (F : Nat → Int) (j : Nat) : Int := F (2 + j)
def took (F i : Nat → Int) : Bool := okI i && decide (F 1 < i 0)
def whole (F i : Nat → Int) : Nat → Int := addI (pend F) i
def told (F i : Nat → Int) : Bool := took F i && decide (F 0 ≤ whole F i 1)
def nextF (F i : Nat → Int) (j : Nat) : Int := if took F i = true then (if j = 0 then F 0 else if j = 1 then i 0 else if told F i = true then 0 else whole F i (j - 2)) else F j
def toldR (F i : Nat → Int) (j : Nat) : Int := if told F i = true then whole F i j else 0
def errI (F i : Nat → Int) : Int := if took F i = true then 0 else 1
theorem okI_bd {f : Nat → Int} (h : okI f = true) : (1 ≤ f 1 ∧ f 1 ≤ 100000) ∧ (0 ≤ f 0 ∧ f 0 ≤ 1125899906842624) ∧ ∀ j, 2 ≤ j → j < 8 → -34359738368 ≤ f j ∧ f j ≤ 34359738368 := by
  unfold okI at h
  simp only [Bool.and_eq_true, inB, decide_eq_true_eq, true_and] at h
  obtain ⟨⟨⟨h1, h0⟩, ⟨h2, h3⟩, h4⟩, ⟨h5, h6⟩, h7⟩ := h
  refine ⟨h1, h0, fun j ha hb => ?_⟩
  match j, ha, hb with
  | 2, _, _ => exact h2
  | 3, _, _ => exact h3
  | 4, _, _ => exact h4
  | 5, _, _ => exact h5
  | 6, _, _ => exact h6
  | 7, _, _ => exact h7
theorem okI_mod {f : Nat → Int} (h : okI f = true) : Mod 1 f := fun j h1 h2 => by
  obtain ⟨a, _, b⟩ := okI_bd h
  by_cases e : j = 1
  · subst e; omega
  · have := b j (by omega) h2; omega
set_option maxHeartbeats 4000000 in
theorem dnew_bad (a : Int) (w : World) (h : a < 1000 ∨ 100000 < a) : Calls Try.prog 9 #[.int .i64 a] w fun e w' => e = .returned (.tuple #[.pointer none, .int .i64 1]) ∧ w' = w := by
  by_cases h1 : a < 1000
  · go_enter Try.func9, Try.ntmps9
    go_wp2
    go_ret2
    exact ⟨rfl, rfl⟩
  · have h2 : 100000 < a := by omega
    have h3 : ¬ a < 1000 := by omega
    go_enter Try.func9, Try.ntmps9
    go_wp2
    go_ret2
    exact ⟨rfl, rfl⟩
def newS (a : Int) (j : Nat) : Int := if j = 0 then a else if j = 1 then -1 else 0
set_option maxHeartbeats 4000000 in
theorem dnew_any (a : Int) (w : World) (h1 : ¬ a < 1000) (h2 : ¬ 100000 < a) : Calls Try.prog 9 #[.int .i64 a] w fun e w' => e = .returned (.tuple #[.pointer (some ⟨w.heap.size, 0, none⟩), .int .i64 0]) ∧ Blk w' w.heap.size (rowA 10 (newS a)) 77 ∧ Below w.heap.size w w' := by
  go_enter Try.func9, Try.ntmps9
  go_wp2
  go_ret2
  exact ⟨rfl, Blk.made _ _ _ rfl, (Below.refl _ _).alloc (Nat.le_refl _) _⟩
set_option maxHeartbeats 4000000 in
theorem pending_any (A : Nat) (F : Nat → Int) (w : World) (h : Blk w A (rowA 10 F) 77) : Calls Try.prog 13 #[.pointer (some ⟨A, 0, none⟩)] w fun e w' => e = .returned (.int .i64 (F 3)) ∧ w' = w := by
  have c : w.cell? ⟨A, 3, none⟩ = some (.int .i64 (F 3)) := h.cell 3
  go_enter Try.func13, Try.ntmps13
  go_wp2
  go_ret
  exact ⟨rfl, rfl⟩
end Go.Proofs.Ytdndomknjefgkaa.Rg
