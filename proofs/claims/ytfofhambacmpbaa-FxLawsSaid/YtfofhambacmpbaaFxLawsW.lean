/- Proved here: order makes no difference to sums and products, multiplying keeps signs and order, dividing undoes multiplying where nothing is clamped; for every input. -/
import Derived.Test.YtfofhambacmpbaaAwakeF
import Derived.Test.YtfofhambacmpbaaLift
import Derived.Test.YtfofhambacmpbaaFxM
namespace Go.Proofs.Ytfofhambacmpbaa.fxLaws
open Go.RowKit
abbrev three (a b d : Int) : Nat → Int := fun i => if i = 0 then a else if i = 1 then b else d
theorem sum3 (a b d : Int) : sumS (three a b d) 3 = satv a + satv b + satv d := by
  show 0 + satv a + satv b + satv d = _
  omega
/-- Add of three, under a name. -/
theorem add3 (p o B : Nat) (a b d v : Int) (t : TypeId) (h : Bool) (w : World) (f : Fl p o h w) (hB : w.heap.size = B) (hv : satv (satv a + satv b + satv d) = v) :
    Calls Try.prog 40 #[.pointer (some ⟨p, o, none⟩), .slice (some ⟨B, 0, none⟩) 3 3] (w.alloc (.cells #[.int .i64 a, .int .i64 b, .int .i64 d] t)) fun e w' => e = .returned (.int .i64 v) ∧ ∃ g, FlW p o g w w' := by
  have hl := f.lt
  have hk : FlW p o h w (w.alloc (.cells #[.int .i64 a, .int .i64 b, .int .i64 d] t)) := (FlW.refl f).alloc _
  have Bk : Blk (w.alloc (.cells #[.int .i64 a, .int .i64 b, .int .i64 d] t)) B #[.int .i64 a, .int .i64 b, .int .i64 d] t := Blk.made _ _ _ hB
  refine (add_fx p o B 0 3 3 _ h _ (f.alloc _) (by decide) Bk.lt (by omega) Bk.ints3).mono fun e w' ⟨he, k⟩ => ⟨he.trans (ret_int ?_), _, hk.trans k⟩
  rw [rnd_none, ← hv]
  exact congrArg satv (sum3 a b d)
theorem mulv (p o : Nat) (a b : Int) (s : Nat) (v : Int) (h : Bool) (w : World) (f : Fl p o h w) (hs : s ≤ 120) (hv : satv (rnd (satv a * satv b) s) = v) :
    Calls Try.prog 43 #[.pointer (some ⟨p, o, none⟩), .int .i64 a, .int .i64 b, .int .i64 s] w fun e w' => e = .returned (.int .i64 v) ∧ ∃ g, FlW p o g w w' :=
  (mul_fx p o a b s h w f hs).mono fun _ _ ⟨he, k⟩ => ⟨he.trans (ret_int hv), _, k⟩
theorem subv (p o : Nat) (a b v : Int) (h : Bool) (w : World) (f : Fl p o h w) (hv : satv (satv a - satv b) = v) :
    Calls Try.prog 50 #[.pointer (some ⟨p, o, none⟩), .int .i64 a, .int .i64 b] w fun e w' => e = .returned (.int .i64 v) ∧ ∃ g, FlW p o g w w' :=
  (sub_any p o a b h w f).mono fun _ _ ⟨he, k⟩ => ⟨he.trans (ret_int hv), _, k⟩
theorem muldivv (p o : Nat) (a b d v : Int) (h : Bool) (w : World) (f : Fl p o h w) (hv : divv (satv a * satv b) (satv d) = v) :
    Calls Try.prog 54 #[.pointer (some ⟨p, o, none⟩), .int .i64 a, .int .i64 b, .int .i64 d] w fun e w' => e = .returned (.int .i64 v) ∧ ∃ g, FlW p o g w w' :=
  (muldiv_fx p o a b d h w f).mono fun _ _ ⟨he, k⟩ => ⟨he.trans (ret_int hv), _, k⟩
theorem divv0 (p o : Nat) (a b : Int) (s : Nat) (v : Int) (h : Bool) (w : World) (f : Fl p o h w) (hs : s ≤ 66) (hv : divv (satv a * 2 ^ s) (satv b) = v) :
    Calls Try.prog 42 #[.pointer (some ⟨p, o, none⟩), .int .i64 a, .int .i64 b, .int .i64 s] w fun e w' => e = .returned (.int .i64 v) ∧ ∃ g, FlW p o g w w' :=
  (div_fx p o a b s h w f hs).mono fun _ _ ⟨he, k⟩ => ⟨he.trans (ret_int hv), _, k⟩
theorem undo (a : Int) (h : (false || sath a || sath 1048576 || sath (rnd (satv a * satv 1048576) 0)) = false) :
    divv (satv (satv (rnd (satv a * satv 1048576) 0)) * 2 ^ 0) (satv 1048576) = a := by
  rw [show satv 1048576 = 1048576 from by decide, show sath 1048576 = false from by decide] at *
  simp only [Bool.false_or, Bool.or_false, Bool.or_eq_false_iff] at h
  obtain ⟨h1, h2⟩ := h
  have ha : -1152921504606846976 ≤ a ∧ a ≤ 1152921504606846976 := by
    unfold sath at h1
    simp only [Bool.or_eq_false_iff, decide_eq_false_iff_not] at h1
    omega
  obtain ⟨e1, e2⟩ := satv_in ha.1 ha.2
  rw [e1, rnd_none] at h2
  have hx : -1152921504606846976 ≤ a * 1048576 ∧ a * 1048576 ≤ 1152921504606846976 := by
    unfold sath at h2
    simp only [Bool.or_eq_false_iff, decide_eq_false_iff_not] at h2
    omega
  rw [e1, rnd_none, (satv_in hx.1 hx.2).1, (satv_in hx.1 hx.2).1]
  unfold divv
  rw [if_neg (by decide), show a * 1048576 * 2 ^ 0 = a * 1048576 by simp, divZ_even _ _ (by decide), e1]
set_option maxRecDepth 100000 in
set_option maxHeartbeats 4000000 in
theorem walk (a : Int) (w0 : (Lit.int .i64 a).wf = true) (b : Int) (w1 : (Lit.int .i64 b).wf = true) (d : Int) (w2 : (Lit.int .i64 d).wf = true) (w : World) :
    Calls Try.prog 13 #[.int .i64 a, .int .i64 b, .int .i64 d] w fun e w' => e = .returned (.bool true) ∧ Below w.heap.size w w' := by
  clear w0 w1 w2
  have A1 := Lib.hid (show satv (satv d + satv a + satv b) = satv (satv a + satv b + satv d) by congr 1; omega)
  have A2 := Lib.hid (show satv (rnd (satv b * satv a) 30) = satv (rnd (satv a * satv b) 30) by rw [Int.mul_comm])
  have A3 := Lib.hid (show satv (satv b - satv a) = -satv (satv a - satv b) by rw [← satv_neg]; congr 1; omega)
  have A4 := Lib.hid (show divv (satv b * satv a) (satv d) = divv (satv a * satv b) (satv d) by rw [Int.mul_comm])
  have x1 := satv_lo (satv a - satv b)
  have x2 := satv_hi (satv a - satv b)
  generalize hs1 : satv (satv a - satv b) = x at *
  have S1 := Lib.hid hs1
  clear hs1
  have A5 := Lib.hid (undo a)
  have A6 : 0 ≤ d → a ≤ b → ¬ satv (rnd (satv b * satv d) 30) < satv (rnd (satv a * satv d) 30) := fun h1 h2 => by
    have h3 : 0 ≤ satv d := by have := satv_mono h1; rwa [show satv 0 = 0 from by decide] at this
    have := satv_mono (rnd_mono 30 (Int.mul_le_mul_of_nonneg_right (satv_mono h2) h3))
    omega
  have A6 := Lib.hid A6
  have hd : d < 0 ∨ (¬ d < 0 ∧ b < a) ∨ (¬ d < 0 ∧ ¬ b < a) := by omega
  rcases hd with h | ⟨h, h'⟩ | ⟨h, h'⟩
  all_goals
    first | (have A7 := A6.out (by omega) (by omega)) | skip
    clear A6
    go_enter Try.func13, Try.ntmps13
    go_wp2_with fail
    refine (awakeF_any _).mono ?_
    rintro e w1 ⟨rfl, hB⟩
    go_wp2_with fail
    generalize hW : World.alloc w1 (.cells #[.bool false] _) = W
    have f : Fl w1.heap.size 0 false W := by subst hW; exact Fl.made _ _ _
    have hl := hB.size
    have hB : Below w.heap.size w W := by subst hW; exact hB.alloc hB.size _
    have hS : W.heap.size = w1.heap.size + 1 := by subst hW; simp
    have HS := Lib.hid hS
    clear hW hS
    refine (add3 w1.heap.size 0 _ a b d _ _ false W f HS.out rfl).mono ?_
    rintro e w2 ⟨rfl, g, k⟩
    have f := k.fl f
    have hB := hB.trans (k.below hB.size hl)
    clear k HS
    go_wp2_with fail
    refine (add3 w1.heap.size 0 _ d a b _ _ g w2 f rfl A1.out).mono ?_
    rintro e w3 ⟨rfl, g, k⟩
    have f := k.fl f
    have hB := hB.trans (k.below hB.size hl)
    clear k
    generalize satv (satv a + satv b + satv d) = s at *
    go_wp2_with fail
    refine (mulv w1.heap.size 0 a b 30 _ _ _ f (by decide) rfl).mono ?_
    rintro e w4 ⟨rfl, g, k⟩
    have f := k.fl f
    have hB := hB.trans (k.below hB.size hl)
    clear k
    go_wp2_with fail
    refine (mulv w1.heap.size 0 b a 30 _ _ _ f (by decide) A2.out).mono ?_
    rintro e w5 ⟨rfl, g, k⟩
    have f := k.fl f
    have hB := hB.trans (k.below hB.size hl)
    clear k
    generalize satv (rnd (satv a * satv b) 30) = m at *
    go_wp2_with fail
    refine (subv w1.heap.size 0 a b x _ _ f S1.out).mono ?_
    rintro e w6 ⟨rfl, g, k⟩
    have f := k.fl f
    have hB := hB.trans (k.below hB.size hl)
    clear k
    go_wp2_with fail
    refine (subv w1.heap.size 0 b a (-x) _ _ f A3.out).mono ?_
    rintro e w7 ⟨rfl, g, k⟩
    have f := k.fl f
    have hB := hB.trans (k.below hB.size hl)
    clear k
    go_wp2_with fail
    refine (muldivv w1.heap.size 0 a b d _ _ _ f rfl).mono ?_
    rintro e w8 ⟨rfl, g, k⟩
    have f := k.fl f
    have hB := hB.trans (k.below hB.size hl)
    clear k
    go_wp2_with fail
    refine (muldivv w1.heap.size 0 b a d _ _ _ f A4.out).mono ?_
    rintro e w9 ⟨rfl, g, k⟩
    have f := k.fl f
    have hB := hB.trans (k.below hB.size hl)
    clear k
    generalize divv (satv a * satv b) (satv d) = q at *
    go_wp2_with fail
    first
      | (have hA7 := A7
         refine (mulv w1.heap.size 0 a d 30 _ _ _ f (by decide) rfl).mono ?_
         rintro e w10 ⟨rfl, g, k⟩
         have f := k.fl f
         have hB := hB.trans (k.below hB.size hl)
         clear k
         go_wp2_with fail
         refine (mulv w1.heap.size 0 b d 30 _ _ _ f (by decide) rfl).mono ?_
         rintro e w11 ⟨rfl, g, k⟩
         have f := k.fl f
         have hB := hB.trans (k.below hB.size hl)
         clear k
         generalize satv (rnd (satv a * satv d) 30) = m1 at *
         generalize satv (rnd (satv b * satv d) 30) = m2 at *
         go_wp2_with fail
         generalize hVe : w11 = V at *
         clear hVe)
      | (generalize hVe : w9 = V at *; clear hVe)
    generalize hX : World.alloc V (.cells #[.bool false] _) = X
    have f2 : Fl V.heap.size 0 false X := by subst hX; exact Fl.made _ _ _
    have hl2 := hB.size
    have hB : Below w.heap.size w X := by subst hX; exact hB.alloc hB.size _
    clear hX f
    refine (mul_fx V.heap.size 0 a 1048576 0 false _ f2 (by decide)).mono ?_
    rintro e w12 ⟨rfl, k⟩
    have f2 := k.fl f2
    have hB := hB.trans (k.below hB.size hl2)
    clear k
    generalize hg : (false || sath a || sath 1048576 || sath (rnd (satv a * satv 1048576) 0)) = g2 at *
    cases g2
    · have A8 := Lib.hid (A5.out rfl)
      have fc := f2.cell
      clear hg A5
      go_wp2_with fail
      refine (divv0 V.heap.size 0 _ 1048576 0 a _ _ f2 (by decide) A8.out).mono ?_
      rintro e w13 ⟨rfl, g, k⟩
      have hB := hB.trans (k.below hB.size hl2)
      clear k fc
      go_wp2_with fail
      go_ret
      exact ⟨rfl, hB⟩
    · have fc := f2.cell
      clear hg A5
      go_wp2_with fail
      go_ret
      exact ⟨rfl, hB⟩
end Go.Proofs.Ytfofhambacmpbaa.fxLaws
