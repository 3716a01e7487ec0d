/- Sums of two and of three, of the code and of the document's own. -/
import Derived.Test.YtfofhambacmpbaaAccD
namespace Go.Proofs.Ytfofhambacmpbaa
open Go.RowKit

theorem Fl.far {p q o i : Nat} {h g : Bool} {w w' : World} (f : Fl q i h w) (hne : q ≠ p) (k : FlW p o g w w') : Fl q i h w' :=
  ⟨(k.cell f.lt (.inl hne)).trans f.cell, (k.frozen f.lt).trans f.free, Nat.lt_of_lt_of_le f.lt k.size⟩
abbrev pr2 (a b : Int) : Nat → Int := fun i => if i = 0 then a else b
abbrev pr3 (a b d : Int) : Nat → Int := fun i => if i = 0 then a else if i = 1 then b else d
theorem sum2' (a b : Int) : sumS (pr2 a b) 2 = satv a + satv b := by
  show 0 + satv a + satv b = _
  omega
theorem sum3' (a b d : Int) : sumS (pr3 a b d) 3 = satv a + satv b + satv d := by
  show 0 + satv a + satv b + satv d = _
  omega
theorem any2 (a b : Int) : anyS (pr2 a b) 2 = (sath a || sath b) := by
  show ((false || sath a) || sath b) = _
  simp
theorem any3 (a b d : Int) : anyS (pr3 a b d) 3 = (sath a || sath b || sath d) := by
  show (((false || sath a) || sath b) || sath d) = _
  simp
theorem fadd2 (p o B : Nat) (a b : Int) (t : TypeId) (h : Bool) (w : World) (f : Fl p o h w) (hB : w.heap.size = B) :
    Calls Try.prog 40 #[.pointer (some ⟨p, o, none⟩), .slice (some ⟨B, 0, none⟩) 2 2] (w.alloc (.cells #[.int .i64 a, .int .i64 b] t)) fun e w' => e = .returned (.int .i64 (satv (satv a + satv b))) ∧ FlW p o (h || (sath a || sath b) || sath (satv a + satv b)) w w' := by
  have hl := f.lt
  have hk : FlW p o h w (w.alloc (.cells #[.int .i64 a, .int .i64 b] t)) := (FlW.refl f).alloc _
  have Bk : Blk (w.alloc (.cells #[.int .i64 a, .int .i64 b] t)) B #[.int .i64 a, .int .i64 b] t := Blk.made _ _ _ hB
  refine (add_fx p o B 0 2 2 (pr2 a b) h _ (f.alloc _) (by decide) Bk.lt (by omega) Bk.ints2).mono fun e w' ⟨he, k⟩ => ⟨he.trans (ret_int ?_), flag_is ?_ (hk.trans k)⟩
  · rw [rnd_none, sum2']
  · rw [rnd_none, sum2', any2]
theorem rsum2 (p o B : Nat) (a b : Int) (t : TypeId) (h : Bool) (w : World) (f : Fl p o h w) (hB : w.heap.size = B) :
    Calls Try.prog 56 #[.pointer (some ⟨p, o, none⟩), .slice (some ⟨B, 0, none⟩) 2 2] (w.alloc (.cells #[.int .i64 a, .int .i64 b] t)) fun e w' => e = .returned (.int .i64 (satv (satv a + satv b))) ∧ FlW p o (h || (sath a || sath b) || sath (satv a + satv b)) w w' := by
  have hl := f.lt
  have hk : FlW p o h w (w.alloc (.cells #[.int .i64 a, .int .i64 b] t)) := (FlW.refl f).alloc _
  have Bk : Blk (w.alloc (.cells #[.int .i64 a, .int .i64 b] t)) B #[.int .i64 a, .int .i64 b] t := Blk.made _ _ _ hB
  refine (rsum_any p o B 0 2 2 (pr2 a b) h _ (f.alloc _) (by decide) Bk.lt (by omega) Bk.ints2).mono fun e w' ⟨he, k⟩ => ⟨he.trans (ret_int ?_), flag_is ?_ (hk.trans k)⟩
  · rw [sum2']
  · rw [sum2', any2]
theorem radd2 (p o : Nat) (a b : Int) (h : Bool) (w : World) (f : Fl p o h w) :
    Calls Try.prog 49 #[.pointer (some ⟨p, o, none⟩), .int .i64 a, .int .i64 b] w fun e w' => e = .returned (.int .i64 (satv (satv a + satv b))) ∧ FlW p o (h || (sath a || sath b) || sath (satv a + satv b)) w w' := by
  go_enter Try.func49, Try.ntmps49
  go_wp2_with fail
  refine (rsum2 p o _ a b _ h w f rfl).mono ?_
  rintro e w1 ⟨rfl, k⟩
  go_wp2_with fail
  go_ret
  exact ⟨rfl, k⟩
theorem fadd3 (p o B : Nat) (a b d : Int) (t : TypeId) (h : Bool) (w : World) (f : Fl p o h w) (hB : w.heap.size = B) :
    Calls Try.prog 40 #[.pointer (some ⟨p, o, none⟩), .slice (some ⟨B, 0, none⟩) 3 3] (w.alloc (.cells #[.int .i64 a, .int .i64 b, .int .i64 d] t)) fun e w' => e = .returned (.int .i64 (satv (satv a + satv b + satv d))) ∧ FlW p o (h || (sath a || sath b || sath d) || sath (satv a + satv b + satv d)) w w' := by
  have hl := f.lt
  have hk : FlW p o h w (w.alloc (.cells #[.int .i64 a, .int .i64 b, .int .i64 d] t)) := (FlW.refl f).alloc _
  have Bk : Blk (w.alloc (.cells #[.int .i64 a, .int .i64 b, .int .i64 d] t)) B #[.int .i64 a, .int .i64 b, .int .i64 d] t := Blk.made _ _ _ hB
  refine (add_fx p o B 0 3 3 (pr3 a b d) h _ (f.alloc _) (by decide) Bk.lt (by omega) Bk.ints3).mono fun e w' ⟨he, k⟩ => ⟨he.trans (ret_int ?_), flag_is ?_ (hk.trans k)⟩
  · rw [rnd_none, sum3']
  · rw [rnd_none, sum3', any3]
theorem rsum3 (p o B : Nat) (a b d : Int) (t : TypeId) (h : Bool) (w : World) (f : Fl p o h w) (hB : w.heap.size = B) :
    Calls Try.prog 56 #[.pointer (some ⟨p, o, none⟩), .slice (some ⟨B, 0, none⟩) 3 3] (w.alloc (.cells #[.int .i64 a, .int .i64 b, .int .i64 d] t)) fun e w' => e = .returned (.int .i64 (satv (satv a + satv b + satv d))) ∧ FlW p o (h || (sath a || sath b || sath d) || sath (satv a + satv b + satv d)) w w' := by
  have hl := f.lt
  have hk : FlW p o h w (w.alloc (.cells #[.int .i64 a, .int .i64 b, .int .i64 d] t)) := (FlW.refl f).alloc _
  have Bk : Blk (w.alloc (.cells #[.int .i64 a, .int .i64 b, .int .i64 d] t)) B #[.int .i64 a, .int .i64 b, .int .i64 d] t := Blk.made _ _ _ hB
  refine (rsum_any p o B 0 3 3 (pr3 a b d) h _ (f.alloc _) (by decide) Bk.lt (by omega) Bk.ints3).mono fun e w' ⟨he, k⟩ => ⟨he.trans (ret_int ?_), flag_is ?_ (hk.trans k)⟩
  · rw [sum3']
  · rw [sum3', any3]
end Go.Proofs.Ytfofhambacmpbaa
