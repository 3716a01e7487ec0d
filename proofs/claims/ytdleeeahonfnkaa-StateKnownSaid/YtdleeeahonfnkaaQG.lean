/- The document's own scalars again: Add, Sub, Sum, Neg, Mul, M. -/
import Derived.Test.YtdleeeahonfnkaaQF
namespace Go.Proofs.Ytdleeeahonfnkaa
open Go.RowKit

set_option maxHeartbeats 1000000 in
theorem qsub (p o : Nat) (a b : Int) (h : Bool) (w : World) (f : Fl p o h w) :
    Calls Try.prog 119 #[.pointer (some ⟨p, o, none⟩), .int .i64 a, .int .i64 b] w fun e w' => e = .returned (.int .i64 (satv (satv a - satv b))) ∧ FlW p o (h || sath a || sath b || sath (satv a - satv b)) w w' := by
  have l1 := satv_lo a
  have l2 := satv_hi a
  have l3 := satv_lo b
  have l4 := satv_hi b
  have HE := Lib.hid (show IntKind.i64.wrap (satv a - satv b) = satv a - satv b by rw [IntKind.wrap_i64]; omega)
  go_enter Try.func119, Try.ntmps119
  go_wp2_with fail
  refine (qsat p o a h _ f).mono ?_
  rintro e w1 ⟨rfl, k⟩
  have f := k.fl f
  go_wp2_with fail
  refine (qsat p o b _ _ f).mono ?_
  rintro e w2 ⟨rfl, k2⟩
  have f := k2.fl f
  have k := k.trans k2
  clear k2
  go_wp2_with fail
  refine (qsat p o (satv a - satv b) _ _ f).mono ?_
  rintro e w3 ⟨rfl, k3⟩
  go_wp2_with fail
  go_ret
  exact ⟨rfl, k.trans k3⟩
set_option maxHeartbeats 1000000 in
theorem qadd2 (p o : Nat) (a b : Int) (h : Bool) (w : World) (f : Fl p o h w) :
    Calls Try.prog 112 #[.pointer (some ⟨p, o, none⟩), .int .i64 a, .int .i64 b] w fun e w' => e = .returned (.int .i64 (satv (satv a + satv b))) ∧ FlW p o (h || sath a || sath b || sath (satv a + satv b)) w w' := by
  have l1 := satv_lo a
  have l2 := satv_hi a
  have l3 := satv_lo b
  have l4 := satv_hi b
  go_enter Try.func112, Try.ntmps112
  go_wp2_with fail
  refine (qsat p o a h _ f).mono ?_
  rintro e w1 ⟨rfl, k⟩
  have f := k.fl f
  go_wp2_with fail
  refine (qsat p o b _ _ f).mono ?_
  rintro e w2 ⟨rfl, k2⟩
  have f := k2.fl f
  have k := k.trans k2
  clear k2
  go_wp2_with fail
  refine (qsat p o (satv a + satv b) _ _ f).mono ?_
  rintro e w3 ⟨rfl, k3⟩
  go_wp2_with fail
  go_ret
  exact ⟨rfl, k.trans k3⟩
end Go.Proofs.Ytdleeeahonfnkaa
