/- Package fx: scalars. -/
import Derived.Test.YtdleeeahonfnkaaPA
import Derived.Test.YtdleeeahonfnkaaPC

/- LawC -/
namespace Go.Proofs.Ytdleeeahonfnkaa
open Go.RowKit

theorem W_of (h l : Int) (l0 : 0 ≤ l) (l1 : l < 18446744073709551616) : Value.agg #[.int .i64 h, .int .u64 l] = Wv (h * 18446744073709551616 + l) :=
  agg2 (by unfold wh; omega) (by unfold wl; omega)
theorem W_in (h l : Int) (h0 : -9223372036854775808 ≤ h) (h1 : h ≤ 9223372036854775807) (l0 : 0 ≤ l) (l1 : l < 18446744073709551616) : InW (h * 18446744073709551616 + l) := ⟨by omega, by omega⟩
theorem wmul_at (a b v : Int) (w : World) (a1 : -9223372036854775808 ≤ a) (a2 : a ≤ 9223372036854775807) (b1 : -9223372036854775808 ≤ b) (b2 : b ≤ 9223372036854775807) (hv : a * b = v) :
    Calls Try.prog 84 #[.int .i64 a, .int .i64 b] w fun e w' => e = .returned (Wv v) ∧ Below w.heap.size w w' := by
  subst hv; exact wmul_any a b w a1 a2 b1 b2
theorem wcmp_is (x y c : Int) (w : World) (hc : cmpI x y = c) :
    Calls Try.prog 85 #[Wv x, Wv y] w fun e w' => e = .returned (.int .i64 c) ∧ Below w.heap.size w w' := by
  subst hc; exact wcmp_any x y w
def pairF (x y : Int) (i : Nat) : Int := if i = 0 then x else y
theorem wadd_two (b : Nat) (x y : Int) (w : World) (hb : b < w.heap.size) (hx : InW x) (hy : InW y) (hs : InW (x + y))
    (h0 : w.cell? ⟨b, 0, none⟩ = some (.int .i64 (wh x))) (h1 : w.cell? ⟨b, 1, none⟩ = some (.int .u64 (wl x))) (h2 : w.cell? ⟨b, 2, none⟩ = some (.int .i64 (wh y))) (h3 : w.cell? ⟨b, 3, none⟩ = some (.int .u64 (wl y))) :
    Calls Try.prog 81 #[.slice (some ⟨b, 0, none⟩) 2 2] w fun e w' => e = .returned (.tuple #[Wv (x + y), .bool true]) ∧ Below w.heap.size w w' := by
  have e0 : accum (pairF x y) 0 = 0 := rfl
  have e1 : accum (pairF x y) 1 = x := by show 0 + x = x; omega
  have e2 : accum (pairF x y) 2 = x + y := by show accum (pairF x y) 1 + y = _; rw [e1]
  have hin : ∀ k, k ≤ 2 → InW (accum (pairF x y) k) := fun k hk => by
    match k, hk with
    | 0, _ => rw [e0]; exact inW_zero
    | 1, _ => rw [e1]; exact hx
    | 2, _ => rw [e2]; exact hs
  have htw : ∀ i, i < 2 → InW (pairF x y i) := fun i hi => by
    match i, hi with
    | 0, _ => exact hx
    | 1, _ => exact hy
  have hc : Holds w b 0 2 (pairF x y) := ⟨fun i hi => by
    match i, hi with
    | 0, _ => exact h0
    | 1, _ => exact h2, fun i hi => by
    match i, hi with
    | 0, _ => exact h1
    | 1, _ => exact h3⟩
  refine (wadd_any b 0 2 2 2 (pairF x y) w (by decide) hb htw (Nat.le_refl _) hin (.inl rfl) hc).mono fun e w' ⟨he, hb'⟩ => ⟨he.trans (ret_val ?_), hb'⟩
  rw [show addRes (pairF x y) 2 2 = .tuple #[Wv (accum (pairF x y) 2), .bool true] from rfl, e2]
/-- The four cells of a slice of two numbers that was just made. -/
theorem two_cells (w : World) (x y : Int) (t : TypeId) : let W := w.alloc (.cells #[.int .i64 (wh x), .int .u64 (wl x), .int .i64 (wh y), .int .u64 (wl y)] t)
    W.cell? ⟨w.heap.size, 0, none⟩ = some (.int .i64 (wh x)) ∧ W.cell? ⟨w.heap.size, 1, none⟩ = some (.int .u64 (wl x)) ∧ W.cell? ⟨w.heap.size, 2, none⟩ = some (.int .i64 (wh y)) ∧ W.cell? ⟨w.heap.size, 3, none⟩ = some (.int .u64 (wl y)) := by
  intro W
  have h : W.heap[w.heap.size]? = some (.cells #[.int .i64 (wh x), .int .u64 (wl x), .int .i64 (wh y), .int .u64 (wl y)] t (0, 0)) := heap_alloc_new w _
  exact ⟨by rw [cell_of_row W _ _ _ _ _ h]; rfl, by rw [cell_of_row W _ _ _ _ _ h]; rfl, by rw [cell_of_row W _ _ _ _ _ h]; rfl, by rw [cell_of_row W _ _ _ _ _ h]; rfl⟩
theorem wadd_made (N : Nat) (t : TypeId) (x y : Int) (w : World) (hN : w.heap.size = N) (hx : InW x) (hy : InW y) (hs : InW (x + y)) :
    Calls Try.prog 81 #[.slice (some ⟨N, 0, none⟩) 2 2] (w.alloc (.cells #[.int .i64 (wh x), .int .u64 (wl x), .int .i64 (wh y), .int .u64 (wl y)] t)) fun e w' => e = .returned (.tuple #[Wv (x + y), .bool true]) ∧ Below w.heap.size w w' := by
  subst hN
  obtain ⟨h0, h1, h2, h3⟩ := two_cells w x y t
  refine (wadd_two w.heap.size x y _ (by simp) hx hy hs h0 h1 h2 h3).mono fun e w' ⟨he, hb⟩ => ⟨he, ?_⟩
  exact ((Below.refl _ _).alloc (Nat.le_refl _) _).trans (hb.mono (by simp))
end Go.Proofs.Ytdleeeahonfnkaa

/- FxA -/
namespace Go.Proofs.Ytdleeeahonfnkaa
open Go.RowKit

theorem flag_or {p o : Nat} {g h : Bool} {w w' : World} (hh : h = true) (k : FlW p o true w w') : FlW p o (g || h) w w' := by subst hh; rw [Bool.or_true]; exact k
theorem flag_keep {p o : Nat} {g h : Bool} {w w' : World} (hh : h = false) (k : FlW p o g w w') : FlW p o (g || h) w w' := by subst hh; rw [Bool.or_false]; exact k
theorem clamp_any (p o : Nat) (a lo hi : Int) (h : Bool) (w : World) (f : Fl p o h w) :
    Calls Try.prog 22 #[.pointer (some ⟨p, o, none⟩), .int .i64 a, .int .i64 lo, .int .i64 hi] w fun e w' => e = .returned (.int .i64 (clampv a lo hi)) ∧ FlW p o (h || clamph a lo hi) w w' := by
  obtain ⟨fc, ff, fl⟩ := f
  have f : Fl p o h w := ⟨fc, ff, fl⟩
  by_cases h1 : hi < lo
  · have HV := Lib.hid (show clampv a lo hi = lo ∧ clamph a lo hi = true by unfold clampv clamph; rw [if_pos h1, decide_eq_true h1]; exact ⟨rfl, rfl⟩)
    go_enter Try.func22, Try.ntmps22
    go_wp2
    go_ret
    exact ⟨ret_int HV.out.1.symm, flag_or HV.out.2 (FlW.set _ _)⟩
  · by_cases h2 : a < lo
    · have HV := Lib.hid (show clampv a lo hi = lo ∧ clamph a lo hi = true by unfold clampv clamph; rw [if_neg h1, if_pos h2, decide_eq_false h1, decide_eq_true h2]; exact ⟨rfl, rfl⟩)
      go_enter Try.func22, Try.ntmps22
      go_wp2
      go_ret
      exact ⟨ret_int HV.out.1.symm, flag_or HV.out.2 (FlW.set _ _)⟩
    · by_cases h3 : hi < a
      · have HV := Lib.hid (show clampv a lo hi = hi ∧ clamph a lo hi = true by unfold clampv clamph; rw [if_neg h1, if_neg h2, if_pos h3, decide_eq_false h1, decide_eq_false h2, decide_eq_true h3]; exact ⟨rfl, rfl⟩)
        go_enter Try.func22, Try.ntmps22
        go_wp2
        go_ret
        exact ⟨ret_int HV.out.1.symm, flag_or HV.out.2 (FlW.set _ _)⟩
      · have HV := Lib.hid (show clampv a lo hi = a ∧ clamph a lo hi = false by unfold clampv clamph; rw [if_neg h1, if_neg h2, if_neg h3, decide_eq_false h1, decide_eq_false h2, decide_eq_false h3]; exact ⟨rfl, rfl⟩)
        go_enter Try.func22, Try.ntmps22
        go_wp2
        go_ret
        exact ⟨ret_int HV.out.1.symm, flag_keep HV.out.2 (FlW.refl f)⟩
theorem clamp_max (p o : Nat) (a : Int) (h : Bool) (w : World) (f : Fl p o h w) :
    Calls Try.prog 22 #[.pointer (some ⟨p, o, none⟩), .int .i64 a, .int .i64 (-1152921504606846976), .int .i64 1152921504606846976] w fun e w' => e = .returned (.int .i64 (satv a)) ∧ FlW p o (h || sath a) w w' := by
  rw [← (clamp_sat a).1, ← (clamp_sat a).2]
  exact clamp_any p o a _ _ h w f
theorem sat_any (p o : Nat) (a : Int) (h : Bool) (w : World) (f : Fl p o h w) :
    Calls Try.prog 24 #[.pointer (some ⟨p, o, none⟩), .int .i64 a] w fun e w' => e = .returned (.int .i64 (satv a)) ∧ FlW p o (h || sath a) w w' := by
  go_enter Try.func24, Try.ntmps24
  go_wp2_with fail
  refine (clamp_max p o a h _ f).mono ?_
  rintro e w1 ⟨rfl, k⟩
  go_wp2_with fail
  go_ret
  exact ⟨rfl, k⟩
theorem wrap64_in (x : Int) (h1 : -9223372036854775808 ≤ x) (h2 : x ≤ 9223372036854775807) : wrap64 x = x := by unfold wrap64; omega
/-- Sat at a number that is reckoned. -/
theorem sat_at (p o : Nat) (x a : Int) (h : Bool) (w : World) (f : Fl p o h w) (hx : x = a) :
    Calls Try.prog 24 #[.pointer (some ⟨p, o, none⟩), .int .i64 x] w fun e w' => e = .returned (.int .i64 (satv a)) ∧ FlW p o (h || sath a) w w' := by
  subst hx; exact sat_any p o x h w f
theorem sub_any (p o : Nat) (a b : Int) (h : Bool) (w : World) (f : Fl p o h w) :
    Calls Try.prog 28 #[.pointer (some ⟨p, o, none⟩), .int .i64 a, .int .i64 b] w fun e w' => e = .returned (.int .i64 (satv (satv a - satv b))) ∧ FlW p o (h || sath a || sath b || sath (satv a - satv b)) w w' := by
  have l1 := satv_lo a
  have l2 := satv_hi a
  have l3 := satv_lo b
  have l4 := satv_hi b
  go_enter Try.func28, Try.ntmps28
  go_wp2_with fail
  refine (sat_any p o a h _ f).mono ?_
  rintro e w1 ⟨rfl, k1⟩
  have f1 := k1.fl f
  go_wp2_with fail
  refine (sat_any p o b _ _ f1).mono ?_
  rintro e w2 ⟨rfl, k2⟩
  have f2 := k2.fl f1
  go_wp2_with fail
  refine (sat_at p o _ (satv a - satv b) _ _ f2 rfl).mono ?_
  rintro e w3 ⟨rfl, k3⟩
  go_wp2_with fail
  go_ret
  exact ⟨rfl, (k1.trans k2).trans k3⟩
def absv (a : Int) : Int := if a < -1152921504606846976 then 1152921504606846976 else if 1152921504606846976 < a then 1152921504606846976 else a.natAbs
theorem abs_any (a : Int) (w : World) :
    Calls Try.prog 37 #[.int .i64 a] w fun e w' => e = .returned (.int .i64 (absv a)) ∧ w = w' := by
  by_cases h1 : a < -1152921504606846976
  · have HV := Lib.hid (show absv a = 1152921504606846976 by unfold absv; rw [if_pos h1])
    go_enter Try.func37, Try.ntmps37
    go_wp2
    go_ret
    exact ⟨ret_int HV.out.symm, rfl⟩
  · by_cases h2 : 1152921504606846976 < a
    · have HV := Lib.hid (show absv a = 1152921504606846976 by unfold absv; rw [if_neg h1, if_pos h2])
      go_enter Try.func37, Try.ntmps37
      go_wp2
      go_ret
      exact ⟨ret_int HV.out.symm, rfl⟩
    · have HV := Lib.hid (show absv a = a.natAbs by unfold absv; rw [if_neg h1, if_neg h2])
      by_cases h3 : 0 ≤ a
      · have h4 : -a ≤ a := by omega
        go_enter Try.func37, Try.ntmps37
        go_wp2
        go_ret
        refine ⟨ret_int ?_, rfl⟩
        rw [HV.out]; omega
      · have h4 : ¬ -a ≤ a := by omega
        go_enter Try.func37, Try.ntmps37
        go_wp2
        go_ret
        refine ⟨ret_int ?_, rfl⟩
        rw [HV.out]; omega
theorem cmp_bd (x y : Int) : -1 ≤ cmpI x y ∧ cmpI x y ≤ 1 := by unfold cmpI; repeat split <;> omega
theorem zero_Wv : Value.agg #[.int .i64 0, .int .u64 0] = Wv 0 := agg2 rfl rfl
theorem bound_any (p o : Nat) (v : Int) (h : Bool) (w : World) (f : Fl p o h w) (hv : InW v) :
    Calls Try.prog 143 #[.pointer (some ⟨p, o, none⟩), Wv v] w fun e w' => e = .returned (.int .i64 (sideOf v)) ∧ FlW p o true w w' := by
  obtain ⟨fc, ff, fl⟩ := f
  have l1 := wh_lo hv
  have l2 := wh_hi hv
  have l3 := wl_lo v
  have l4 := wl_hi v
  have c1 := (cmp_bd v 0).1
  have c2 := (cmp_bd v 0).2
  go_enter Try.func143, Try.ntmps143
  go_wp2_with fail
  refine (wcmp_at v 0 _ _ zero_Wv).mono ?_
  rintro e w1 ⟨rfl, hb⟩
  have hb2 := ((FlW.set (p := p) (o := o) true w).alloc _).then hb
  clear hb
  go_wp2_with fail
  go_ret
  exact ⟨rfl, hb2⟩
end Go.Proofs.Ytdleeeahonfnkaa

/- FxB -/
namespace Go.Proofs.Ytdleeeahonfnkaa
open Go.RowKit

theorem flag_is {p o : Nat} {g h : Bool} {w w' : World} (hh : h = g) (k : FlW p o h w w') : FlW p o g w w' := by subst hh; exact k
theorem box_at {w : World} {h l : Int} {t : TypeId} {B : Nat} (hB : w.heap.size = B) : (w.alloc (.cells #[.int .i64 h, .int .u64 l] t)).cell? ⟨B, 0, none⟩ = some (.int .i64 h) ∧ (w.alloc (.cells #[.int .i64 h, .int .u64 l] t)).cell? ⟨B, 1, none⟩ = some (.int .u64 l) := by
  subst hB
  have e := heap_alloc_new w (.cells #[.int .i64 h, .int .u64 l] t)
  exact ⟨by rw [cell_of_row _ _ _ _ _ _ e]; rfl, by rw [cell_of_row _ _ _ _ _ _ e]; rfl⟩
set_option maxHeartbeats 1000000 in
theorem round_fx (p o : Nat) (v : Int) (s : Nat) (h : Bool) (w : World) (f : Fl p o h w) (hv : InW v) (hs : s ≤ 126) :
    Calls Try.prog 100 #[.pointer (some ⟨p, o, none⟩), Wv v, .int .i64 s] w fun e w' => e = .returned (.int .i64 (satv (rnd v s))) ∧ FlW p o (h || sath (rnd v s)) w w' := by
  have hsv := show sok (rnd v s) = true → sval (rnd v s) = rnd v s from fun x => by unfold sval; rw [if_pos x]
  have HS := Lib.hid hsv
  clear hsv
  cases hk : sok (rnd v s)
  · have HF := Lib.hid (round_far hk)
    have HK := Lib.hid hk
    clear hk
    go_enter Try.func100, Try.ntmps100
    go_wp2_with fail
    generalize hW : World.alloc w _ = W
    obtain ⟨a0, a1⟩ : W.cell? ⟨w.heap.size, 0, none⟩ = some (.int .i64 (wh v)) ∧ W.cell? ⟨w.heap.size, 1, none⟩ = some (.int .u64 (wl v)) := by subst hW; exact box_at rfl
    have hz : w.heap.size < W.heap.size := by subst hW; simp
    have hB : Below w.heap.size w W := by subst hW; exact (Below.refl _ _).alloc (Nat.le_refl _) _
    clear hW
    refine (round_any v s _ hv hs).mono ?_
    rintro e w1 ⟨rfl, hb⟩
    rw [show withSign (decide (v < 0)) (rq v.natAbs s) = rnd v s from rfl, HK.out]
    have a0 := (hb.cell (p := ⟨w.heap.size, 0, none⟩) hz).trans a0
    have a1 := (hb.cell (p := ⟨w.heap.size, 1, none⟩) hz).trans a1
    have hB := hB.trans (hb.mono (Nat.le_of_lt hz))
    have f1 := f.below hB
    clear hb hz
    go_wp2_with fail
    refine (bound_any p o v h _ f1 hv).mono ?_
    rintro e w2 ⟨rfl, k⟩
    go_wp2_with fail
    go_ret
    exact ⟨ret_int HF.out.1.symm, flag_or HF.out.2 (((FlW.refl f).then hB).trans k)⟩
  · have hq := HS.out hk
    have HQ := Lib.hid hq
    have HK := Lib.hid hk
    clear hk hq
    go_enter Try.func100, Try.ntmps100
    go_wp2_with fail
    generalize hW : World.alloc w _ = W
    have hB : Below w.heap.size w W := by subst hW; exact (Below.refl _ _).alloc (Nat.le_refl _) _
    have hz : w.heap.size < W.heap.size := by subst hW; simp
    clear hW
    refine (round_any v s _ hv hs).mono ?_
    rintro e w1 ⟨rfl, hb⟩
    rw [show withSign (decide (v < 0)) (rq v.natAbs s) = rnd v s from rfl, HK.out]
    have hB := hB.trans (hb.mono (Nat.le_of_lt hz))
    have f1 := f.below hB
    clear hb hz
    go_wp2_with fail
    refine (sat_at p o _ (rnd v s) h _ f1 HQ.out).mono ?_
    rintro e w2 ⟨rfl, k⟩
    go_wp2_with fail
    go_ret
    exact ⟨rfl, ((FlW.refl f).then hB).trans k⟩
end Go.Proofs.Ytdleeeahonfnkaa

/- FxC -/
namespace Go.Proofs.Ytdleeeahonfnkaa
open Go.RowKit

def divv (v d : Int) : Int := if d = 0 then sideOf v else satv (divZ v d)
def divh (v d : Int) : Bool := if d = 0 then true else sath (divZ v d)
theorem negside (v : Int) : wrap64 (-sideOf v) = -sideOf v := wrap64_in _ (by have := (side_bd v).2; omega) (by have := (side_bd v).1; omega)
set_option maxHeartbeats 1000000 in
theorem divide_fx (p o : Nat) (v d : Int) (h : Bool) (w : World) (f : Fl p o h w) (hv : InW v) (d1 : -9223372036854775808 ≤ d) (d2 : d ≤ 9223372036854775807) :
    Calls Try.prog 105 #[.pointer (some ⟨p, o, none⟩), Wv v, .int .i64 d] w fun e w' => e = .returned (.int .i64 (divv v d)) ∧ FlW p o (h || divh v d) w w' := by
  have sb := side_bd v
  have sb1 := sb.1
  have sb2 := sb.2
  clear sb
  by_cases d0 : d = 0
  · subst d0
    have HV := Lib.hid (show divv v 0 = sideOf v ∧ divh v 0 = true by unfold divv divh; rw [if_pos rfl, if_pos rfl]; exact ⟨rfl, rfl⟩)
    go_enter Try.func105, Try.ntmps105
    go_wp2_with fail
    generalize hW : World.alloc w _ = W
    obtain ⟨a0, a1⟩ : W.cell? ⟨w.heap.size, 0, none⟩ = some (.int .i64 (wh v)) ∧ W.cell? ⟨w.heap.size, 1, none⟩ = some (.int .u64 (wl v)) := by subst hW; exact box_at rfl
    have hz : w.heap.size < W.heap.size := by subst hW; simp
    have hB : Below w.heap.size w W := by subst hW; exact (Below.refl _ _).alloc (Nat.le_refl _) _
    clear hW
    refine (wdiv_zero v _ hv).mono ?_
    rintro e w1 ⟨rfl, hb⟩
    have a0 := (hb.cell (p := ⟨w.heap.size, 0, none⟩) hz).trans a0
    have a1 := (hb.cell (p := ⟨w.heap.size, 1, none⟩) hz).trans a1
    have hB := hB.trans (hb.mono (Nat.le_of_lt hz))
    have f1 := f.below hB
    clear hb hz
    go_wp2_with fail
    refine (bound_any p o v h _ f1 hv).mono ?_
    rintro e w2 ⟨rfl, k⟩
    go_wp2_with fail
    go_ret
    exact ⟨ret_int HV.out.1.symm, flag_or HV.out.2 (((FlW.refl f).then hB).trans k)⟩
  · have HV := Lib.hid (show divv v d = satv (divZ v d) ∧ divh v d = sath (divZ v d) by unfold divv divh; rw [if_neg d0, if_neg d0]; exact ⟨rfl, rfl⟩)
    cases hk : sok (divZ v d)
    · have HF := Lib.hid (div_far d0 hk)
      have HK := Lib.hid hk
      have HD := Lib.hid (wdiv_any v d · hv d1 d2 d0)
      clear hk d0
      by_cases hd : d < 0
      all_goals
        go_enter Try.func105, Try.ntmps105
        go_wp2_with fail
        generalize hW : World.alloc w _ = W
        obtain ⟨a0, a1⟩ : W.cell? ⟨w.heap.size, 0, none⟩ = some (.int .i64 (wh v)) ∧ W.cell? ⟨w.heap.size, 1, none⟩ = some (.int .u64 (wl v)) := by subst hW; exact box_at rfl
        have hz : w.heap.size < W.heap.size := by subst hW; simp
        have hB : Below w.heap.size w W := by subst hW; exact (Below.refl _ _).alloc (Nat.le_refl _) _
        clear hW
        refine (HD.out _).mono ?_
        rintro e w1 ⟨rfl, hb⟩
        rw [HK.out]
        have a0 := (hb.cell (p := ⟨w.heap.size, 0, none⟩) hz).trans a0
        have a1 := (hb.cell (p := ⟨w.heap.size, 1, none⟩) hz).trans a1
        have hB := hB.trans (hb.mono (Nat.le_of_lt hz))
        have f1 := f.below hB
        clear hb hz
        go_wp2_with fail
        refine (bound_any p o v h _ f1 hv).mono ?_
        rintro e w2 ⟨rfl, k⟩
        go_wp2_with fail
        go_ret
        refine ⟨ret_int ?_, flag_is (show true = (h || divh v d) by rw [HV.out.2, HF.out.2, Bool.or_true]) (((FlW.refl f).then hB).trans k)⟩
        rw [HV.out.1, HF.out.1]
      · rw [if_pos hd]
      · rw [if_neg (by omega)]
    · have HQ := Lib.hid (show sval (divZ v d) = divZ v d by unfold sval; rw [if_pos hk])
      have HK := Lib.hid hk
      have HD := Lib.hid (wdiv_any v d · hv d1 d2 d0)
      clear hk d0
      go_enter Try.func105, Try.ntmps105
      go_wp2_with fail
      generalize hW : World.alloc w _ = W
      have hB : Below w.heap.size w W := by subst hW; exact (Below.refl _ _).alloc (Nat.le_refl _) _
      have hz : w.heap.size < W.heap.size := by subst hW; simp
      clear hW
      refine (HD.out _).mono ?_
      rintro e w1 ⟨rfl, hb⟩
      rw [HK.out]
      have hB := hB.trans (hb.mono (Nat.le_of_lt hz))
      have f1 := f.below hB
      clear hb hz
      go_wp2_with fail
      refine (sat_at p o _ (divZ v d) h _ f1 HQ.out).mono ?_
      rintro e w2 ⟨rfl, k⟩
      go_wp2_with fail
      go_ret
      exact ⟨ret_int HV.out.1.symm, flag_is (by rw [HV.out.2]) (((FlW.refl f).then hB).trans k)⟩

theorem bilin_abs {a b : Int} {k : Int} (hk : 0 ≤ k) (a1 : -k ≤ a) (a2 : a ≤ k) (b1 : -k ≤ b) (b2 : b ≤ k) : -(k * k) ≤ a * b ∧ a * b ≤ k * k := by
  have h1 : (a * b).natAbs ≤ k.natAbs * k.natAbs := by
    rw [Int.natAbs_mul]
    exact Nat.mul_le_mul (by omega) (by omega)
  have h2 : (k * k).natAbs = k.natAbs * k.natAbs := Int.natAbs_mul _ _
  have h3 : 0 ≤ k * k := Int.mul_nonneg hk hk
  generalize a * b = x at *
  generalize k * k = y at *
  omega
theorem mul_sat_in (a b : Int) : InW (satv a * satv b) := by
  have h := bilin_abs (k := 1152921504606846976) (by omega) (satv_lo a) (satv_hi a) (satv_lo b) (satv_hi b)
  exact ⟨by omega, by omega⟩
set_option maxHeartbeats 1000000 in
theorem mul_fx (p o : Nat) (a b : Int) (s : Nat) (h : Bool) (w : World) (f : Fl p o h w) (hs : s ≤ 120) :
    Calls Try.prog 30 #[.pointer (some ⟨p, o, none⟩), .int .i64 a, .int .i64 b, .int .i64 s] w fun e w' => e = .returned (.int .i64 (satv (rnd (satv a * satv b) s))) ∧ FlW p o (h || sath a || sath b || sath (rnd (satv a * satv b) s)) w w' := by
  have g1 : ¬ (s : Int) < 0 := by omega
  have g2 : ¬ (120 : Int) < s := by omega
  have l1 := satv_lo a
  have l2 := satv_hi a
  have l3 := satv_lo b
  have l4 := satv_hi b
  go_enter Try.func30, Try.ntmps30
  go_wp2_with fail
  refine (sat_any p o a h _ f).mono ?_
  rintro e w1 ⟨rfl, k1⟩
  have f1 := k1.fl f
  go_wp2_with fail
  refine (sat_any p o b _ _ f1).mono ?_
  rintro e w2 ⟨rfl, k2⟩
  have f2 := k2.fl f1
  go_wp2_with fail
  refine (wmul_any (satv a) (satv b) _ (by omega) (by omega) (by omega) (by omega)).mono ?_
  rintro e w3 ⟨rfl, hb⟩
  have f3 := f2.below hb
  go_wp2_with fail
  refine (round_fx p o (satv a * satv b) s _ _ f3 (mul_sat_in a b) (by omega)).mono ?_
  rintro e w4 ⟨rfl, k4⟩
  go_wp2_with fail
  go_ret
  exact ⟨rfl, ((k1.trans k2).then hb).trans k4⟩
theorem mul_out (p o : Nat) (a b s : Int) (h : Bool) (w : World) (f : Fl p o h w) (hs : s < 0 ∨ 120 < s) :
    Calls Try.prog 30 #[.pointer (some ⟨p, o, none⟩), .int .i64 a, .int .i64 b, .int .i64 s] w fun e w' => e = .returned (.int .i64 0) ∧ FlW p o true w w' := by
  obtain ⟨fc, ff, fl⟩ := f
  by_cases g1 : s < 0
  · go_enter Try.func30, Try.ntmps30
    go_wp2
    go_ret
    exact ⟨rfl, FlW.set _ _⟩
  · have g2 : 120 < s := by omega
    go_enter Try.func30, Try.ntmps30
    go_wp2
    go_ret
    exact ⟨rfl, FlW.set _ _⟩
set_option maxHeartbeats 1000000 in
theorem muldiv_fx (p o : Nat) (a b d : Int) (h : Bool) (w : World) (f : Fl p o h w) :
    Calls Try.prog 34 #[.pointer (some ⟨p, o, none⟩), .int .i64 a, .int .i64 b, .int .i64 d] w fun e w' => e = .returned (.int .i64 (divv (satv a * satv b) (satv d))) ∧ FlW p o (h || sath a || sath b || sath d || divh (satv a * satv b) (satv d)) w w' := by
  have l1 := satv_lo a
  have l2 := satv_hi a
  have l3 := satv_lo b
  have l4 := satv_hi b
  have l5 := satv_lo d
  have l6 := satv_hi d
  go_enter Try.func34, Try.ntmps34
  go_wp2_with fail
  refine (sat_any p o a h _ f).mono ?_
  rintro e w1 ⟨rfl, k1⟩
  have f1 := k1.fl f
  go_wp2_with fail
  refine (sat_any p o b _ _ f1).mono ?_
  rintro e w2 ⟨rfl, k2⟩
  have f2 := k2.fl f1
  go_wp2_with fail
  refine (wmul_any (satv a) (satv b) _ (by omega) (by omega) (by omega) (by omega)).mono ?_
  rintro e w3 ⟨rfl, hb⟩
  have f3 := f2.below hb
  go_wp2_with fail
  refine (sat_any p o d _ _ f3).mono ?_
  rintro e w4 ⟨rfl, k4⟩
  have f4 := k4.fl f3
  go_wp2_with fail
  refine (divide_fx p o (satv a * satv b) (satv d) _ _ f4 (mul_sat_in a b) (by omega) (by omega)).mono ?_
  rintro e w5 ⟨rfl, k5⟩
  go_wp2_with fail
  go_ret
  exact ⟨rfl, (((k1.trans k2).then hb).trans k4).trans k5⟩
end Go.Proofs.Ytdleeeahonfnkaa

/- FxD -/
namespace Go.Proofs.Ytdleeeahonfnkaa
open Go.RowKit

theorem shift_in (a : Int) (s : Nat) (hs : s ≤ 66) : InW (satv a * 2 ^ s) := by
  have h1 := satv_lo a
  have h2 := satv_hi a
  have e : ((2 : Int) ^ s) = ((2 ^ s : Nat) : Int) := by simp
  have h3 : 2 ^ s ≤ 73786976294838206464 := pow_lt s 66 hs
  rw [e]
  generalize 2 ^ s = q at *
  have h4 : (satv a * (q : Int)).natAbs ≤ 1152921504606846976 * 73786976294838206464 := by
    rw [Int.natAbs_mul]
    exact Nat.mul_le_mul (by omega) (by omega)
  generalize satv a * (q : Int) = x at *
  exact ⟨by omega, by omega⟩
set_option maxHeartbeats 1000000 in
theorem div_fx (p o : Nat) (a b : Int) (s : Nat) (h : Bool) (w : World) (f : Fl p o h w) (hs : s ≤ 66) :
    Calls Try.prog 32 #[.pointer (some ⟨p, o, none⟩), .int .i64 a, .int .i64 b, .int .i64 s] w fun e w' => e = .returned (.int .i64 (divv (satv a * 2 ^ s) (satv b))) ∧ FlW p o (h || sath a || sath b || divh (satv a * 2 ^ s) (satv b)) w w' := by
  have g1 : ¬ (s : Int) < 0 := by omega
  have g2 : ¬ (66 : Int) < s := by omega
  have l1 := satv_lo a
  have l2 := satv_hi a
  have l3 := satv_lo b
  have l4 := satv_hi b
  go_enter Try.func32, Try.ntmps32
  go_wp2_with fail
  refine (sat_any p o a h _ f).mono ?_
  rintro e w1 ⟨rfl, k1⟩
  have f1 := k1.fl f
  go_wp2_with fail
  refine (wshift_yes (satv a) s _ (by omega) (by omega) (by omega) (shift_in a s hs)).mono ?_
  rintro e w2 ⟨rfl, hb⟩
  have k2 := k1.then hb
  have f2 := f1.below hb
  clear k1 f1 hb
  go_upto_region 1 with (fail)
  have hV := shift_in a s hs
  generalize hVe : satv a * 2 ^ s = V at *
  have HVe := Lib.hid hVe
  clear hVe
  generalize hW : World.alloc w2 _ = W
  obtain ⟨a0, a1⟩ : W.cell? ⟨w2.heap.size, 0, none⟩ = some (.int .i64 (wh V)) ∧ W.cell? ⟨w2.heap.size, 1, none⟩ = some (.int .u64 (wl V)) := by subst hW; exact box_at rfl
  have hz : w2.heap.size < W.heap.size := by subst hW; simp
  have k3 : FlW p o (h || sath a) w W := by subst hW; exact k2.alloc _
  have f3 : Fl p o (h || sath a) W := by subst hW; exact f2.alloc _
  have hne : w2.heap.size ≠ p := (by have := f2.lt; omega)
  clear hW k2 f2
  go_region_held3 (fun w' => FExt p W w')
    ((show FExt p W _; first | (with_reducible exact FExt.start p W) | (with_reducible exact hJ)))
    (first
      | (go_at_call 24; refine (sat_any p o b _ _ (by first | exact f3 | exact f3.drew)).mono ?_; rintro e w4 ⟨rfl, kk⟩; have hJ := FExt.flag (by assumption) kk)
      | (go_at_call 105; refine (divide_fx p o V (satv b) _ _ (by first | exact kk.fl f3 | exact kk.fl f3.drew) hV (by omega) (by omega)).mono ?_; rintro e w5 ⟨rfl, kl⟩; have hJ := FExt.flag (by assumption) kl))
  go_wp2_with fail
  go_ret
  exact ⟨ret_int (by rw [HVe.out]), flag_is (by rw [HVe.out]) ((k3.drew.trans kk).trans kl)⟩
theorem div_out (p o : Nat) (a b s : Int) (h : Bool) (w : World) (f : Fl p o h w) (hs : s < 0 ∨ 66 < s) :
    Calls Try.prog 32 #[.pointer (some ⟨p, o, none⟩), .int .i64 a, .int .i64 b, .int .i64 s] w fun e w' => e = .returned (.int .i64 0) ∧ FlW p o true w w' := by
  obtain ⟨fc, ff, fl⟩ := f
  by_cases g1 : s < 0
  · go_enter Try.func32, Try.ntmps32
    go_wp2
    go_ret
    exact ⟨rfl, FlW.set _ _⟩
  · have g2 : 66 < s := by omega
    go_enter Try.func32, Try.ntmps32
    go_wp2
    go_ret
    exact ⟨rfl, FlW.set _ _⟩
end Go.Proofs.Ytdleeeahonfnkaa

/- FxE -/
namespace Go.Proofs.Ytdleeeahonfnkaa
open Go.RowKit

/-- The slice's numbers, in memory. -/
structure Ints (w : World) (b o n : Nat) (xs : Nat → Int) : Prop where
  at_ : ∀ i, i < n → w.cell? ⟨b, o + i, none⟩ = some (.int .i64 (xs i))
def sumS (xs : Nat → Int) : Nat → Int
  | 0 => 0
  | k + 1 => sumS xs k + satv (xs k)
def anyS (xs : Nat → Int) : Nat → Bool
  | 0 => false
  | k + 1 => anyS xs k || sath (xs k)
theorem sumS_bd (xs : Nat → Int) (k : Nat) : -(1152921504606846976 * (k : Int)) ≤ sumS xs k ∧ sumS xs k ≤ 1152921504606846976 * (k : Int) := by
  induction k with
  | zero => simp [sumS]
  | succ k ih =>
    have h1 := satv_lo (xs k)
    have h2 := satv_hi (xs k)
    simp only [sumS]
    omega
theorem sumS_in (xs : Nat → Int) (k : Nat) (hk : k ≤ 9223372036854775807) : InW (sumS xs k) := by
  have := sumS_bd xs k
  exact ⟨by omega, by omega⟩
theorem satv_inW (a : Int) : InW (satv a) := by
  have h1 := satv_lo a
  have h2 := satv_hi a
  exact ⟨by omega, by omega⟩
theorem free_of_block {w : World} {B : Nat} {c : Array Value} {t : TypeId} (h : w.heap[B]? = some (.cells c t (0, 0))) (i : Nat) : w.frozen? ⟨B, i, none⟩ = false := by
  unfold World.frozen?
  rw [h]
  simp
set_option maxHeartbeats 2000000 in
theorem add_fx (p o : Nat) (b ob n c : Nat) (xs : Nat → Int) (h : Bool) (w : World) (f : Fl p o h w) (hn : n ≤ 9223372036854775807) (hb : b < w.heap.size) (hbp : b ≠ p) (hx : Ints w b ob n xs) :
    Calls Try.prog 26 #[.pointer (some ⟨p, o, none⟩), .slice (some ⟨b, ob, none⟩) n c] w fun e w' => e = .returned (.int .i64 (satv (rnd (sumS xs n) 0))) ∧ FlW p o (h || anyS xs n || sath (rnd (sumS xs n) 0)) w w' := by
  go_enter Try.func26, Try.ntmps26
  go_wp2
  go_loopw [10] (fun i wr => ∃ k : Nat, k ≤ n ∧ i = .int .i64 k ∧ FlW p o (h || anyS xs k) w wr ∧ w.heap.size < wr.heap.size ∧ wr.heap[w.heap.size]? = some (.cells #[.int .i64 (wh (sumS xs k)), .int .u64 (wl (sumS xs k))] 24 (0, 0))) (fun i _ => n - (intOf i).toNat)
  case atStart =>
    refine ⟨0, Nat.zero_le _, rfl, flag_is (by simp [anyS]) ((FlW.refl f).alloc _), by simp, heap_alloc_new w _⟩
  case round =>
    obtain ⟨k, hk, rfl, hF, hz, hc⟩ := hrel
    by_cases hlt : k < n
    · have hxk := (hF.cell (b := b) (i := ob + k) hb (.inl hbp)).trans (hx.at_ k hlt)
      have e0 : wr.cell? ⟨w.heap.size, 0, none⟩ = some (.int .i64 (wh (sumS xs k))) := by rw [cell_of_row wr _ _ _ _ _ hc]; rfl
      have e1 : wr.cell? ⟨w.heap.size, 1, none⟩ = some (.int .u64 (wl (sumS xs k))) := by rw [cell_of_row wr _ _ _ _ _ hc]; rfl
      have fr := hF.fl f
      have hRp : w.heap.size ≠ p := by have := f.lt; omega
      have l1 := satv_lo (xs k)
      have l2 := satv_hi (xs k)
      have hltI : (k : Int) < (n : Int) := by omega
      have hI1 := sumS_in xs k (by omega)
      have hI2 := satv_inW (xs k)
      have hI3 : InW (sumS xs k + satv (xs k)) := sumS_in xs (k + 1) (by omega)
      go_wp2_with fail
      go_region_with (first
        | (go_at_call 24; refine (sat_any p o (xs k) _ _ (by first | exact fr | exact fr.drew)).mono ?_; rintro e w4 ⟨rfl, kk⟩; have c0 := (kk.cell hz (.inl hRp)).trans e0; have c1 := (kk.cell hz (.inl hRp)).trans e1; have z4 := Nat.lt_of_lt_of_le hz kk.size; have b4 := (kk.block hz hRp).trans hc)
        | (go_at_call 79; refine (wof_any (satv (xs k)) _ (by omega) (by omega)).mono ?_; rintro e w5 ⟨rfl, hb5⟩; have d0 := (hb5.cell z4).trans c0; have d1 := (hb5.cell z4).trans c1; have z5 := Nat.lt_of_lt_of_le z4 hb5.size; have b5 := (hb5.block _ z4).trans b4)
        | (go_at_call 81; refine (wadd_made _ _ (sumS xs k) (satv (xs k)) _ rfl hI1 hI2 hI3).mono ?_; rintro e w6 ⟨rfl, hb6⟩; have g0 := (hb6.cell z5).trans d0; have g1 := (hb6.cell z5).trans d1; have z6 := Nat.lt_of_lt_of_le z5 hb6.size; have b6 := (hb6.block _ z5).trans b5; have m6 := ((kk.then hb5).then hb6); have r0 : w6.frozen? ⟨w.heap.size, 0, none⟩ = false := free_of_block b6 0; have r1 : w6.frozen? ⟨w.heap.size, 1, none⟩ = false := free_of_block b6 1))
      all_goals
        have HE := Lib.hid (show sumS xs k + satv (xs k) = sumS xs (k + 1) from rfl)
        go_wp2_with fail
        go_roundw
        case rel =>
          refine ⟨k + 1, by omega, by go_num, flag_is (by simp [anyS, Bool.or_assoc]) (((FlW.trans (by first | exact hF.drew | exact hF) m6).other (Nat.le_refl _) _).other (Nat.le_refl _) _), ?_, ?_⟩
          · rw [size_set, size_set]; exact z6
          · exact heap_set2 b6 _ _
        case measure => simp [intOf]; omega
    · have hge : ¬ (k : Int) < (n : Int) := by omega
      obtain rfl : k = n := by omega
      have e0 : wr.cell? ⟨w.heap.size, 0, none⟩ = some (.int .i64 (wh (sumS xs k))) := by rw [cell_of_row wr _ _ _ _ _ hc]; rfl
      have e1 : wr.cell? ⟨w.heap.size, 1, none⟩ = some (.int .u64 (wl (sumS xs k))) := by rw [cell_of_row wr _ _ _ _ _ hc]; rfl
      have fr := hF.fl f
      go_wp2_with fail
      refine (round_fx p o (sumS xs k) 0 _ _ fr (sumS_in xs k hn) (by omega)).mono ?_
      rintro e w7 ⟨rfl, kk⟩
      go_wp2_with fail
      go_ret
      exact ⟨rfl, hF.trans kk⟩
end Go.Proofs.Ytdleeeahonfnkaa

/- FxF0 -/
namespace Go.Proofs.Ytdleeeahonfnkaa
open Go.RowKit

def sumP (xs ys : Nat → Int) : Nat → Int
  | 0 => 0
  | k + 1 => sumP xs ys k + satv (xs k) * satv (ys k)
def anyP (xs ys : Nat → Int) : Nat → Bool
  | 0 => false
  | k + 1 => anyP xs ys k || sath (xs k) || sath (ys k)
theorem sumP_bd (xs ys : Nat → Int) (k : Nat) : -(1329227995784915872903807060280344576 * (k : Int)) ≤ sumP xs ys k ∧ sumP xs ys k ≤ 1329227995784915872903807060280344576 * (k : Int) := by
  induction k with
  | zero => simp [sumP]
  | succ k ih =>
    have h := bilin_abs (k := 1152921504606846976) (by omega) (satv_lo (xs k)) (satv_hi (xs k)) (satv_lo (ys k)) (satv_hi (ys k))
    simp only [sumP]
    generalize satv (xs k) * satv (ys k) = z at *
    omega
theorem sumP_in (xs ys : Nat → Int) (k : Nat) (hk : k ≤ 100) : InW (sumP xs ys k) := by
  have := sumP_bd xs ys k
  exact ⟨by omega, by omega⟩
end Go.Proofs.Ytdleeeahonfnkaa
