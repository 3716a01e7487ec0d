/- Package fx: sums of products. -/
import Derived.Test.YtbpccdagmaiblaaDoorPA
import Derived.Test.YtbpccdagmaiblaaDoorPD
import Derived.Deep.DeepCutAuto

/- FxF -/
namespace Go.Proofs.YtbpccdagmaiblaaDoor
open Go.RowKit

end Go.Proofs.YtbpccdagmaiblaaDoor

/- FxG -/
namespace Go.Proofs.YtbpccdagmaiblaaDoor
open Go.RowKit

theorem rq_none (n : Nat) : rq n 0 = n := by unfold rq halfOf; simp
theorem rnd_none (v : Int) : rnd v 0 = v := by
  unfold rnd withSign
  rw [rq_none]
  by_cases h : v < 0 <;> simp [h] <;> omega
theorem Blk.ints2 {w : World} {B : Nat} {a b : Int} {t : TypeId} (h : Blk w B #[.int .i64 a, .int .i64 b] t) : Ints w B 0 2 (fun i => if i = 0 then a else b) :=
  ⟨fun i hi => by
    rw [Blk.cell h]
    match i, hi with
    | 0, _ => rfl
    | 1, _ => rfl⟩
theorem Blk.ints3 {w : World} {B : Nat} {a b c : Int} {t : TypeId} (h : Blk w B #[.int .i64 a, .int .i64 b, .int .i64 c] t) : Ints w B 0 3 (fun i => if i = 0 then a else if i = 1 then b else c) :=
  ⟨fun i hi => by
    rw [Blk.cell h]
    match i, hi with
    | 0, _ => rfl
    | 1, _ => rfl
    | 2, _ => rfl⟩
theorem or_false3 {h a b c : Bool} (hh : (a || b || c) = false) : (h || a || b || c) = h := by cases h <;> cases a <;> cases b <;> cases c <;> simp_all
theorem mul_ok (p o : Nat) (a b : Int) (s : Nat) (v : Int) (h : Bool) (w : World) (f : Fl p o h w) (hs : s ≤ 120) (hv : satv (rnd (satv a * satv b) s) = v) (hh : (sath a || sath b || sath (rnd (satv a * satv b) s)) = false) :
    Calls Tryd.prog 22 #[.pointer (some ⟨p, o, none⟩), .int .i64 a, .int .i64 b, .int .i64 s] w fun e w' => e = .returned (.int .i64 v) ∧ FlW p o h w w' :=
  (mul_fx p o a b s h w f hs).mono fun _ _ ⟨he, k⟩ => ⟨he.trans (ret_int hv), flag_is (or_false3 hh) k⟩
theorem div_ok (p o : Nat) (a b : Int) (s : Nat) (v : Int) (h : Bool) (w : World) (f : Fl p o h w) (hs : s ≤ 66) (hv : divv (satv a * 2 ^ s) (satv b) = v) (hh : (sath a || sath b || divh (satv a * 2 ^ s) (satv b)) = false) :
    Calls Tryd.prog 24 #[.pointer (some ⟨p, o, none⟩), .int .i64 a, .int .i64 b, .int .i64 s] w fun e w' => e = .returned (.int .i64 v) ∧ FlW p o h w w' :=
  (div_fx p o a b s h w f hs).mono fun _ _ ⟨he, k⟩ => ⟨he.trans (ret_int hv), flag_is (or_false3 hh) k⟩
theorem muldiv_ok (p o : Nat) (a b d : Int) (v : Int) (h : Bool) (w : World) (f : Fl p o h w) (hv : divv (satv a * satv b) (satv d) = v) (hh : (sath a || sath b || (sath d || divh (satv a * satv b) (satv d))) = false) :
    Calls Tryd.prog 27 #[.pointer (some ⟨p, o, none⟩), .int .i64 a, .int .i64 b, .int .i64 d] w fun e w' => e = .returned (.int .i64 v) ∧ FlW p o h w w' :=
  (muldiv_fx p o a b d h w f).mono fun _ _ ⟨he, k⟩ => ⟨he.trans (ret_int hv), flag_is (by rw [← Bool.or_assoc] at hh; simp only [Bool.or_eq_false_iff] at hh; simp [hh]) k⟩
theorem sat_ok (p o : Nat) (a : Int) (h : Bool) (w : World) (f : Fl p o h w) (h1 : -1152921504606846976 ≤ a) (h2 : a ≤ 1152921504606846976) :
    Calls Tryd.prog 42 #[.pointer (some ⟨p, o, none⟩), .int .i64 a] w fun e w' => e = .returned (.int .i64 a) ∧ FlW p o h w w' :=
  (sat_any p o a h w f).mono fun _ _ ⟨he, k⟩ => ⟨he.trans (ret_int (satv_in h1 h2).1), flag_is (by rw [(satv_in h1 h2).2, Bool.or_false]) k⟩
theorem clamp_ok (p o : Nat) (a lo hi : Int) (h : Bool) (w : World) (f : Fl p o h w) (h1 : lo ≤ a) (h2 : a ≤ hi) :
    Calls Tryd.prog 47 #[.pointer (some ⟨p, o, none⟩), .int .i64 a, .int .i64 lo, .int .i64 hi] w fun e w' => e = .returned (.int .i64 a) ∧ FlW p o h w w' :=
  (clamp_any p o a lo hi h w f).mono fun _ _ ⟨he, k⟩ => ⟨he.trans (ret_int (by unfold clampv; rw [if_neg (by omega), if_neg (by omega), if_neg (by omega)])), flag_is (by unfold clamph; rw [decide_eq_false (by omega), decide_eq_false (by omega), decide_eq_false (by omega)]; simp) k⟩
def anyF (hs : Nat → Bool) : Nat → Bool
  | 0 => false
  | k + 1 => anyF hs k || hs k
end Go.Proofs.YtbpccdagmaiblaaDoor
