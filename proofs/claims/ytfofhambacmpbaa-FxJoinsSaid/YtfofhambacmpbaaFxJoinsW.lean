/- Proved here: the walk of the law of joined sums of products, where there is something to sum. -/
import Derived.Test.YtfofhambacmpbaaFxJoinsA
namespace Go.Proofs.Ytfofhambacmpbaa.fxJoins
open Go.RowKit
theorem dot_in (q : Nat) (W0 : World) (a ao an ac b bo bc : Nat) (xs ys : Nat → Int) (s : Nat) (h : Bool) (w : World) (f : Fl q 0 h w) (hq : W0.heap.size ≤ q) (hB : Below W0.heap.size W0 w) (hs : s ≤ 120) (hN : an ≤ 90)
    (ha : a < W0.heap.size) (hb : b < W0.heap.size) (hx : Ints W0 a ao an xs) (hy : Ints W0 b bo an ys) :
    Calls Try.prog 41 #[.pointer (some ⟨q, 0, none⟩), .int .i64 s, .slice (some ⟨a, ao, none⟩) an ac, .slice (some ⟨b, bo, none⟩) an bc] w fun e w' => e = .returned (.int .i64 (satv (rnd (sumP xs ys an) s))) ∧ Fl q 0 (h || anyP xs ys an || sath (rnd (sumP xs ys an) s)) w' ∧ Below W0.heap.size W0 w' := by
  have hl := hB.size
  refine (dot_fx q 0 a ao an ac b bo an bc xs ys s an h w f hs (by omega) (Nat.le_refl _) (Nat.le_refl _) (by omega) (by omega) (by omega) (by omega) (by omega) ⟨fun i hi => (cellAt hB ha).trans (hx.at_ i hi)⟩ ⟨fun i hi => (cellAt hB hb).trans (hy.at_ i hi)⟩).mono ?_
  rintro e w' ⟨rfl, k⟩
  exact ⟨rfl, k.fl f, hB.trans (k.below hl hq)⟩
theorem tail_at {W0 : World} {a ao n c : Nat} {xs : Nat → Int} (hx : Ints W0 a ao n xs) : Ints W0 a (ao + c) (n - c) (fun i => xs (c + i)) :=
  ⟨fun i hi => by rw [Nat.add_assoc]; exact hx.at_ (c + i) (by omega)⟩
theorem tail_no {W0 : World} {a ao n c : Nat} {xs : Nat → Int} (h : n ≤ c) : Ints W0 a ao (n - c) (fun i => xs (c + i)) :=
  ⟨fun i hi => by omega⟩
theorem split_flag {q : Nat} {G : Bool} {w : World} {A : Prop} (f : Fl q 0 G w) (j : G = false → A) : ∃ G', Fl q 0 G' w ∧ (G' = false → A) := ⟨G, f, j⟩
set_option maxRecDepth 100000 in
set_option maxHeartbeats 8000000 in
theorem walk_full (s c : Nat) (a ao ac b bo bc n : Nat) (xs ys : Nat → Int) (w : World) (hn : 0 < n) (hn90 : n ≤ 90) (hc : c ≤ n) (hs : s ≤ 120) (hac : n ≤ ac) (hbc : n ≤ bc) (hal : ac ≤ 9223372036854775807) (hbl : bc ≤ 9223372036854775807)
    (ha : a < w.heap.size) (hb : b < w.heap.size) (hx : Ints w a ao n xs) (hy : Ints w b bo n ys) : Good (s : Int) (.slice (some ⟨a, ao, none⟩) n ac) (.slice (some ⟨b, bo, none⟩) n bc) (c : Int) w := by
  have g1 : ¬ (90 : Int) < (n : Int) := by omega
  have g2 : ¬ (c : Int) < 0 := by omega
  have g3 : ¬ (n : Int) < (c : Int) := by omega
  have g4 : ¬ (s : Int) < 0 := by omega
  have g5 : ¬ (120 : Int) < (s : Int) := by omega
  have g6 : (0 : Int) ≤ (c : Int) := by omega
  have g7 : (c : Int) ≤ (n : Int) := by omega
  have g8 : (c : Int) ≤ (ac : Int) := by omega
  have g9 : (c : Int) ≤ (bc : Int) := by omega
  have HS := Lib.hid (show sumP xs ys n = sumP xs ys c + sumP (fun i => xs (c + i)) (fun i => ys (c + i)) (n - c) by rw [← sumP_split, show c + (n - c) = n by omega])
  unfold Good
  go_enter Try.func15, Try.ntmps15
  go_wp2_with fail
  refine (awakeF_any _).mono ?_
  rintro e w1 ⟨rfl, hB⟩
  have hl := hB.size
  go_wp2_with fail
  generalize hW : World.alloc w1 _ = W
  have f : Fl w1.heap.size 0 false W := by subst hW; exact Fl.made _ _ _
  have hB : Below w.heap.size w W := by subst hW; exact hB.alloc hB.size _
  clear hW
  have hap : a ≠ w1.heap.size := by omega
  have hbp : b ≠ w1.heap.size := by omega
  refine (dot_in w1.heap.size w a ao n ac b bo bc xs ys s false W f hl hB hs hn90 ha hb hx hy).mono ?_
  rintro e w2 ⟨rfl, f, hB⟩
  go_wp2_with fail
  go_region_with
    (first
      | (go_at_call 41
         refine (dot_in w1.heap.size w a ao c ac b bo bc xs ys s _ _ (by first | exact f | exact f.drew) hl (by first | exact hB | exact hB.drew) hs (by omega) ha hb ⟨fun i hi => hx.at_ i (by omega)⟩ ⟨fun i hi => hy.at_ i (by omega)⟩).mono ?_
         rintro e w3 ⟨rfl, f3, hB3⟩))
  have X1 := tail_at (c := c) hx
  have Y1 := tail_at (c := c) hy
  rcases Decidable.em (c = ac) with hca | hca
  all_goals rcases Decidable.em (c = bc) with hcb | hcb
  all_goals first | subst hca | (have hca : ¬ ac = c := fun h => hca h.symm)
  all_goals first | subst hcb | (have hcb : ¬ bc = c := fun h => hcb h.symm)
  case inr.inr =>
    go_wp2_with fail
    go_region_with
      (first
        | (go_at_call 41
           refine (dot_in w1.heap.size w a (ao + c) (n - c) (ac - c) b (bo + c) (bc - c) (fun i => xs (c + i)) (fun i => ys (c + i)) s _ _ (by first | exact f3.drew | exact f3) hl (by first | exact hB3.drew | exact hB3) hs (by omega) ha hb X1 Y1).mono ?_
           rintro e w4 ⟨rfl, f4, hB4⟩))
    go_wp2_with fail
    refine (fadd2 w1.heap.size 0 _ (satv (rnd (sumP xs ys c) s)) (satv (rnd (sumP (fun i => xs (c + i)) (fun i => ys (c + i)) (n - c)) s)) _ _ w4 f4 rfl).mono ?_
    rintro e w5 ⟨rfl, k5⟩
    have hB5 := hB4.trans (k5.below hB4.size hl)
    obtain ⟨G, f5, hJ⟩ := split_flag (k5.fl f4) (joins HS.out)
    clear k5 f4 hB4
    have c5 := f5.cell
    have l1 := satv_lo (rnd (sumP xs ys n) s)
    have l2 := satv_hi (rnd (sumP xs ys n) s)
    have l3 := satv_lo (satv (satv (rnd (sumP xs ys c) s)) + satv (satv (rnd (sumP (fun i => xs (c + i)) (fun i => ys (c + i)) (n - c)) s)))
    have l4 := satv_hi (satv (satv (rnd (sumP xs ys c) s)) + satv (satv (rnd (sumP (fun i => xs (c + i)) (fun i => ys (c + i)) (n - c)) s)))
    generalize satv (satv (satv (rnd (sumP xs ys c) s)) + satv (satv (rnd (sumP (fun i => xs (c + i)) (fun i => ys (c + i)) (n - c)) s))) = Y at *
    generalize satv (rnd (sumP xs ys n) s) = X at *
    cases G with
    | true =>
      clear hJ
      go_wp2_with fail
      go_ret
      exact ⟨rfl, hB5⟩
    | false =>
      obtain ⟨j1, j2⟩ := hJ rfl
      have j3 : IntKind.i64.wrap (X - Y) = X - Y := i64_id _ (by omega) (by omega)
      have j4 : IntKind.i64.wrap (Y - X) = Y - X := i64_id _ (by omega) (by omega)
      go_wp2_with fail
      go_ret
      exact ⟨rfl, hB5⟩
  case inl.inl =>
    have hnc : n - c = 0 := by omega
    rw [hnc] at HS
    have X0 : ∀ o, Ints w a o 0 (fun i => xs (c + i)) := fun o => ⟨fun i hi => absurd hi (Nat.not_lt_zero i)⟩
    have Y0 : ∀ o, Ints w b o 0 (fun i => ys (c + i)) := fun o => ⟨fun i hi => absurd hi (Nat.not_lt_zero i)⟩
    clear X1 Y1 hnc
    go_wp2_with fail
    go_region_with
      (first
        | (go_at_call 41
           refine (dot_in w1.heap.size w a ao 0 0 b bo 0 (fun i => xs (c + i)) (fun i => ys (c + i)) s _ _ (by first | exact f3.drew | exact f3) hl (by first | exact hB3.drew | exact hB3) hs (by omega) ha hb (X0 _) (Y0 _)).mono ?_
           rintro e w4 ⟨rfl, f4, hB4⟩))
    go_wp2_with fail
    refine (fadd2 w1.heap.size 0 _ (satv (rnd (sumP xs ys c) s)) (satv (rnd (sumP (fun i => xs (c + i)) (fun i => ys (c + i)) 0) s)) _ _ w4 f4 rfl).mono ?_
    rintro e w5 ⟨rfl, k5⟩
    have hB5 := hB4.trans (k5.below hB4.size hl)
    obtain ⟨G, f5, hJ⟩ := split_flag (k5.fl f4) (joins HS.out)
    clear k5 f4 hB4
    have c5 := f5.cell
    have l1 := satv_lo (rnd (sumP xs ys n) s)
    have l2 := satv_hi (rnd (sumP xs ys n) s)
    have l3 := satv_lo (satv (satv (rnd (sumP xs ys c) s)) + satv (satv (rnd (sumP (fun i => xs (c + i)) (fun i => ys (c + i)) 0) s)))
    have l4 := satv_hi (satv (satv (rnd (sumP xs ys c) s)) + satv (satv (rnd (sumP (fun i => xs (c + i)) (fun i => ys (c + i)) 0) s)))
    generalize satv (satv (satv (rnd (sumP xs ys c) s)) + satv (satv (rnd (sumP (fun i => xs (c + i)) (fun i => ys (c + i)) 0) s))) = Y at *
    generalize satv (rnd (sumP xs ys n) s) = X at *
    cases G with
    | true =>
      clear hJ
      go_wp2_with fail
      go_ret
      exact ⟨rfl, hB5⟩
    | false =>
      obtain ⟨j1, j2⟩ := hJ rfl
      have j3 : IntKind.i64.wrap (X - Y) = X - Y := i64_id _ (by omega) (by omega)
      have j4 : IntKind.i64.wrap (Y - X) = Y - X := i64_id _ (by omega) (by omega)
      go_wp2_with fail
      go_ret
      exact ⟨rfl, hB5⟩
  case inl.inr =>
    have hnc : n - c = 0 := by omega
    rw [hnc] at HS
    have X0 : ∀ o, Ints w a o 0 (fun i => xs (c + i)) := fun o => ⟨fun i hi => absurd hi (Nat.not_lt_zero i)⟩
    have Y0 : ∀ o, Ints w b o 0 (fun i => ys (c + i)) := fun o => ⟨fun i hi => absurd hi (Nat.not_lt_zero i)⟩
    clear X1 Y1 hnc
    go_wp2_with fail
    go_region_with
      (first
        | (go_at_call 41
           refine (dot_in w1.heap.size w a ao 0 0 b (bo + c) (bc - c) (fun i => xs (c + i)) (fun i => ys (c + i)) s _ _ (by first | exact f3.drew | exact f3) hl (by first | exact hB3.drew | exact hB3) hs (by omega) ha hb (X0 _) (Y0 _)).mono ?_
           rintro e w4 ⟨rfl, f4, hB4⟩))
    go_wp2_with fail
    refine (fadd2 w1.heap.size 0 _ (satv (rnd (sumP xs ys c) s)) (satv (rnd (sumP (fun i => xs (c + i)) (fun i => ys (c + i)) 0) s)) _ _ w4 f4 rfl).mono ?_
    rintro e w5 ⟨rfl, k5⟩
    have hB5 := hB4.trans (k5.below hB4.size hl)
    obtain ⟨G, f5, hJ⟩ := split_flag (k5.fl f4) (joins HS.out)
    clear k5 f4 hB4
    have c5 := f5.cell
    have l1 := satv_lo (rnd (sumP xs ys n) s)
    have l2 := satv_hi (rnd (sumP xs ys n) s)
    have l3 := satv_lo (satv (satv (rnd (sumP xs ys c) s)) + satv (satv (rnd (sumP (fun i => xs (c + i)) (fun i => ys (c + i)) 0) s)))
    have l4 := satv_hi (satv (satv (rnd (sumP xs ys c) s)) + satv (satv (rnd (sumP (fun i => xs (c + i)) (fun i => ys (c + i)) 0) s)))
    generalize satv (satv (satv (rnd (sumP xs ys c) s)) + satv (satv (rnd (sumP (fun i => xs (c + i)) (fun i => ys (c + i)) 0) s))) = Y at *
    generalize satv (rnd (sumP xs ys n) s) = X at *
    cases G with
    | true =>
      clear hJ
      go_wp2_with fail
      go_ret
      exact ⟨rfl, hB5⟩
    | false =>
      obtain ⟨j1, j2⟩ := hJ rfl
      have j3 : IntKind.i64.wrap (X - Y) = X - Y := i64_id _ (by omega) (by omega)
      have j4 : IntKind.i64.wrap (Y - X) = Y - X := i64_id _ (by omega) (by omega)
      go_wp2_with fail
      go_ret
      exact ⟨rfl, hB5⟩
  case inr.inl =>
    have hnc : n - c = 0 := by omega
    rw [hnc] at HS
    have X0 : ∀ o, Ints w a o 0 (fun i => xs (c + i)) := fun o => ⟨fun i hi => absurd hi (Nat.not_lt_zero i)⟩
    have Y0 : ∀ o, Ints w b o 0 (fun i => ys (c + i)) := fun o => ⟨fun i hi => absurd hi (Nat.not_lt_zero i)⟩
    clear X1 Y1 hnc
    go_wp2_with fail
    go_region_with
      (first
        | (go_at_call 41
           refine (dot_in w1.heap.size w a (ao + c) 0 (ac - c) b bo 0 (fun i => xs (c + i)) (fun i => ys (c + i)) s _ _ (by first | exact f3.drew | exact f3) hl (by first | exact hB3.drew | exact hB3) hs (by omega) ha hb (X0 _) (Y0 _)).mono ?_
           rintro e w4 ⟨rfl, f4, hB4⟩))
    go_wp2_with fail
    refine (fadd2 w1.heap.size 0 _ (satv (rnd (sumP xs ys c) s)) (satv (rnd (sumP (fun i => xs (c + i)) (fun i => ys (c + i)) 0) s)) _ _ w4 f4 rfl).mono ?_
    rintro e w5 ⟨rfl, k5⟩
    have hB5 := hB4.trans (k5.below hB4.size hl)
    obtain ⟨G, f5, hJ⟩ := split_flag (k5.fl f4) (joins HS.out)
    clear k5 f4 hB4
    have c5 := f5.cell
    have l1 := satv_lo (rnd (sumP xs ys n) s)
    have l2 := satv_hi (rnd (sumP xs ys n) s)
    have l3 := satv_lo (satv (satv (rnd (sumP xs ys c) s)) + satv (satv (rnd (sumP (fun i => xs (c + i)) (fun i => ys (c + i)) 0) s)))
    have l4 := satv_hi (satv (satv (rnd (sumP xs ys c) s)) + satv (satv (rnd (sumP (fun i => xs (c + i)) (fun i => ys (c + i)) 0) s)))
    generalize satv (satv (satv (rnd (sumP xs ys c) s)) + satv (satv (rnd (sumP (fun i => xs (c + i)) (fun i => ys (c + i)) 0) s))) = Y at *
    generalize satv (rnd (sumP xs ys n) s) = X at *
    cases G with
    | true =>
      clear hJ
      go_wp2_with fail
      go_ret
      exact ⟨rfl, hB5⟩
    | false =>
      obtain ⟨j1, j2⟩ := hJ rfl
      have j3 : IntKind.i64.wrap (X - Y) = X - Y := i64_id _ (by omega) (by omega)
      have j4 : IntKind.i64.wrap (Y - X) = Y - X := i64_id _ (by omega) (by omega)
      go_wp2_with fail
      go_ret
      exact ⟨rfl, hB5⟩
end Go.Proofs.Ytfofhambacmpbaa.fxJoins
