/- Inertial samples: good ones. -/
import Derived.Test.YtdndomknjefgkaaDnB
namespace Go.Proofs.Ytdndomknjefgkaa.Rg
open Go.RowKit
abbrev L8 (f : Nat → Int) : Array Value := #[.int .i64 (f 0), .int .i64 (f 1), .int .i64 (f 2), .int .i64 (f 3), .int .i64 (f 4), .int .i64 (f 5), .int .i64 (f 6), .int .i64 (f 7)]
theorem rowA8 (f : Nat → Int) : rowA 8 f = L8 f := rfl
def okI (f : Nat → Int) : Bool := inB 1 100000 (fun _ => f 1) 1 && inB 0 1125899906842624 (fun _ => f 0) 1 && inB (-34359738368) 34359738368 (fun k => f (2 + k)) 3 && inB (-34359738368) 34359738368 (fun k => f (5 + k)) 3
theorem ints1 {w : World} {b : Nat} {x : Int} (h : w.cell? ⟨b, 0, none⟩ = some (.int .i64 x)) : Ints w b 0 1 (fun _ => x) :=
  ⟨fun i hi => by obtain rfl := Nat.lt_one_iff.1 hi; exact h⟩
theorem ints3 {w : World} {b o : Nat} {g : Nat → Int} (h0 : w.cell? ⟨b, o, none⟩ = some (.int .i64 (g 0))) (h1 : w.cell? ⟨b, o + 1, none⟩ = some (.int .i64 (g 1))) (h2 : w.cell? ⟨b, o + 2, none⟩ = some (.int .i64 (g 2))) : Ints w b o 3 g := ⟨fun i hi => by
  match i, hi with
  | 0, _ => exact h0
  | 1, _ => exact h1
  | 2, _ => exact h2⟩
set_option maxHeartbeats 4000000 in
theorem good_any (f : Nat → Int) (w : World) : Calls Try.prog 12 #[.agg (L8 f)] w fun e w' => e = .returned (.bool (okI f)) ∧ Below w.heap.size w w' := by
  go_enter Try.func12, Try.ntmps12
  go_wp2_with fail
  refine (within_any 1 100000 _ _ _ _ (fun _ => f 1) _ (by omega) (ints1 (by simp))).mono ?_
  rintro e w0 ⟨rfl, rfl⟩
  cases h0 : inB 1 100000 (fun _ => f 1) 1
  · go_wp2_with fail
    go_ret
    exact ⟨ret_bool (by unfold okI; simp [h0]), by repeat (first | exact Below.refl _ _ | refine Below.alloc ?_ (by first | exact Nat.le_refl _ | (simp; done) | (simp; omega)) _ | refine Below.drew ?_)⟩
  · skip
    go_wp2_with fail
    refine (within_any 0 1125899906842624 _ _ _ _ (fun _ => f 0) _ (by omega) ?_).mono ?_
    · exact ints1 ((Blk.made _ #[.int .i64 (f 0)] _ (by simp)).cell 0)
    rintro e w1 ⟨rfl, rfl⟩
    cases h1 : inB 0 1125899906842624 (fun _ => f 0) 1
    · go_wp2_with fail
      go_ret
      exact ⟨ret_bool (by unfold okI; simp [h0, h1]), by repeat (first | exact Below.refl _ _ | refine Below.alloc ?_ (by first | exact Nat.le_refl _ | (simp; done) | (simp; omega)) _ | refine Below.drew ?_)⟩
    · skip
      go_wp2_with fail
      refine (within_any (-34359738368) 34359738368 _ _ _ _ (fun k => f (2 + k)) _ (by omega) (ints3 ((((Blk.made w (L8 f) _ rfl).alloc _).alloc _).cell 2) ((((Blk.made w (L8 f) _ rfl).alloc _).alloc _).cell 3) ((((Blk.made w (L8 f) _ rfl).alloc _).alloc _).cell 4))).mono ?_
      rintro e w2 ⟨rfl, rfl⟩
      cases h2 : inB (-34359738368) 34359738368 (fun k => f (2 + k)) 3
      · go_wp2_with fail
        go_ret
        exact ⟨ret_bool (by unfold okI; simp [h0, h1, h2]), by repeat (first | exact Below.refl _ _ | refine Below.alloc ?_ (by first | exact Nat.le_refl _ | (simp; done) | (simp; omega)) _ | refine Below.drew ?_)⟩
      · skip
        go_wp2_with fail
        refine (within_any (-34359738368) 34359738368 _ _ _ _ (fun k => f (5 + k)) _ (by omega) (ints3 ((((Blk.made w (L8 f) _ rfl).alloc _).alloc _).cell 5) ((((Blk.made w (L8 f) _ rfl).alloc _).alloc _).cell 6) ((((Blk.made w (L8 f) _ rfl).alloc _).alloc _).cell 7))).mono ?_
        rintro e w3 ⟨rfl, rfl⟩
        cases h3 : inB (-34359738368) 34359738368 (fun k => f (5 + k)) 3
        · go_wp2_with fail
          go_ret
          exact ⟨ret_bool (by unfold okI; simp [h0, h1, h2, h3]), by repeat (first | exact Below.refl _ _ | refine Below.alloc ?_ (by first | exact Nat.le_refl _ | (simp; done) | (simp; omega)) _ | refine Below.drew ?_)⟩
        · skip
          go_wp2_with fail
          go_ret
          exact ⟨ret_bool (by unfold okI; simp [h0, h1, h2, h3]), by repeat (first | exact Below.refl _ _ | refine Below.alloc ?_ (by first | exact Nat.le_refl _ | (simp; done) | (simp; omega)) _ | refine Below.drew ?_)⟩
end Go.Proofs.Ytdndomknjefgkaa.Rg
