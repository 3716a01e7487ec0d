/- A sample's place is sought. -/
import Derived.Test.YtdndomknjefgkaaRgC
namespace Go.Proofs.Ytdndomknjefgkaa.Rg
open Go.RowKit
set_option maxRecDepth 100000 in
set_option maxHeartbeats 4000000 in
theorem seek_any (x : Sam) (hx : x.length = 9) (g cap : Nat) (l : List Sam) (hl : ∀ y ∈ l, y.length = 9) (hs : Sorted l) (hn : l.length < 1000000) (w : World) (hg : g < w.heap.size) (hi : Ints w g 0 (9 * l.length) (fl l)) :
    Calls Try.prog 32 #[.slice (some ⟨g, 0, none⟩) l.length cap, .agg (rowA 9 (fn x)), .func (.func 33) #[] #[]] w fun e w' => (∃ b, e = .returned (.tuple #[.int .i64 (cnt x l : Nat), .bool b])) ∧ Below w.heap.size w w' := by
  go_enter Try.func32, Try.ntmps32
  go_upto_region 1 with (fail)
  generalize hW : World.alloc w _ = X
  have hB : Below w.heap.size w X := by subst hW; exact (Below.refl _ _).alloc (Nat.le_refl _) _
  have h1 : Blk X w.heap.size (rowA 9 (fn x)) 56 := by subst hW; exact Blk.made _ _ _ rfl
  have hsz : X.heap.size = w.heap.size + 1 := by subst hW; simp
  clear hW
  have hXi := hi.below hB hg
  have hne : g ≠ w.heap.size := by omega
  have H := Lib.hid (And.intro hB (And.intro h1 (And.intro hXi hsz)))
  have HS := Lib.hid (And.intro hs (And.intro hl hi))
  clear hB h1 hXi hsz hs hl hi
  generalize hA : w.heap.size = A at *
  have HA := Lib.hid hA
  clear hA
  generalize hnn : l.length = n at *
  have HNN := Lib.hid hnn
  clear hnn
  go_wp2
  go_loopw [9, 10] (fun s t wr => ∃ lo hi : Nat, s = .int .i64 lo ∧ t = .int .i64 hi ∧ lo ≤ hi ∧ hi ≤ n ∧ Hid (Below X.heap.size X wr) ∧ Hid ((∀ t, t < lo → cmpS (l[t]!) x < 0) ∧ (∀ t, hi ≤ t → t < n → 0 ≤ cmpS (l[t]!) x))) (fun s t _ => (intOf t).toNat - (intOf s).toNat)
  case atStart => exact ⟨0, n, rfl, rfl, by omega, by omega, Lib.hid (Below.refl _ _), Lib.hid ⟨fun t ht => by omega, fun t h1 h2 => by omega⟩⟩
  case round =>
    obtain ⟨lo, hi, rfl, rfl, hlh, hin, HX, I⟩ := hrel
    by_cases hlt : lo < hi
    · have hltI : (lo : Int) < hi := by omega
      go_upto_region 5 with (fail)
      obtain ⟨m, hm⟩ : ∃ m : Nat, m = (lo + hi) / 2 := ⟨_, rfl⟩
      have hmI : ((lo : Int) + (hi : Int)) / 2 = (m : Int) := by omega
      have hm1 : m < n := by omega
      rw [hmI]
      have HM := Lib.hid hm
      clear hm hmI
      have hmI1 : (0 : Int) ≤ (m : Int) := by omega
      have hmI2 : (m : Int) < (n : Int) := by omega
      have hlm : (l.getD m []).length = 9 := by
        rw [← HNN.out] at hm1
        simp only [List.getD_eq_getElem?_getD, List.getElem?_eq_getElem hm1, Option.getD_some]
        exact HS.out.2.1 _ (List.getElem_mem hm1)
      have C : Hid (∀ W, Calls Try.prog 33 #[.agg (rowA 9 (fn (l.getD m []))), .agg (rowA 9 (fn x))] W fun e w' => e = .returned (.int .i64 (cmpS (l.getD m []) x)) ∧ Below W.heap.size W w') := fun W => order_any _ _ hlm hx W
      have y1 : Ints wr g (m * 9) 9 (fn (l.getD m [])) := by
        rw [show m * 9 = 0 + 9 * m by omega]
        exact Ints.sam (by rw [HNN.out]; exact H.out.2.2.1.below HX.out (by rw [H.out.2.2.2]; omega)) (by rw [HNN.out]; exact hm1)
      have y2 : Ints wr A 0 9 (fn x) := H.out.2.1.ints.below HX.out (by rw [H.out.2.2.2]; omega)
      have hgl : g < wr.heap.size := by have := HX.out.size; rw [H.out.2.2.2] at this; omega
      have hAl : A < wr.heap.size := by have := HX.out.size; rw [H.out.2.2.2] at this; omega
      obtain ⟨T, N, hS⟩ := opS
      have l1 := hS.load _ _ _ _ y1.drew
      have l2 := hS.load _ _ _ _ y2.drew
      have Y := Lib.hid (And.intro y1.drew (And.intro y2.drew (And.intro hgl hAl)))
      have sa := hS.agg
      have ss := hS.size
      have sl := hS.len
      have HT := Lib.hid hS
      rw [show Op.load 56 = Op.load T by rw [hS.is]]
      clear hS y1 y2
      generalize fn (l.getD m []) = f at *
      generalize hc : cmpS (l.getD m []) x = c at C
      have HC := Lib.hid hc
      clear hc hlm
      go_region_held3 (fun w' => Sem.run Try.prog (loadCellsFrom ⟨g, m * 9, none⟩ 0 N #[]) w' = .ok (rowA 9 f) w' ∧ Sem.run Try.prog (loadCellsFrom ⟨A, 0, none⟩ 0 N #[]) w' = .ok (rowA 9 (fn x)) w')
        ((first | exact ⟨l1, l2⟩ | exact ⟨j1, j2⟩))
        (first
          | (go_at_call 33; refine (C.out _).mono ?_; rintro e w1 ⟨rfl, k1⟩; have j1 := HT.out.load _ _ _ _ (Y.out.1.below k1 Y.out.2.2.1); have j2 := HT.out.load _ _ _ _ (Y.out.2.1.below k1 Y.out.2.2.2)))
      have K := Lib.hid (HX.out.drew.trans (k1.mono HX.out.size))
      have hcl : l[m]! = l.getD m [] := by simp [List.getD_eq_getElem?_getD, getElem!_def]; cases l[m]? <;> rfl
      have HCL := Lib.hid hcl
      clear l1 l2 j1 j2 k1 sa ss sl hcl
      by_cases hc0 : c < 0
      · go_wp2
        go_roundw
        case rel => exact ⟨m + 1, hi, by go_num, rfl, by have := HM.out; omega, hin, K, Lib.hid ⟨fun t ht => cnt_mono x l HS.out.1 t m (by omega) (by rw [HNN.out]; exact hm1) (by rw [HCL.out, HC.out]; exact hc0), I.out.2⟩⟩
        case measure => simp [intOf]; have := HM.out; omega
      · go_wp2
        go_roundw
        case rel => exact ⟨lo, m, rfl, by go_num, by have := HM.out; omega, by omega, K, Lib.hid ⟨I.out.1, fun t h1 h2 => by
          refine Int.not_lt.1 fun h => ?_
          have := cnt_mono x l HS.out.1 m t h1 (by rw [HNN.out]; exact h2) h
          rw [HCL.out, HC.out] at this
          exact hc0 this⟩⟩
        case measure => simp [intOf]; have := HM.out; omega
    · obtain rfl : lo = hi := by omega
      have ec : cnt x l = lo := cnt_is x l lo (by rw [HNN.out]; exact hin) I.out.1 (fun t h1 h2 => I.out.2 t h1 (by rw [← HNN.out]; exact h2))
      have EC := Lib.hid ec
      clear ec
      by_cases hn1 : lo < n
      · have hnI : (lo : Int) < n := by omega
        have hmI1 : (0 : Int) ≤ (lo : Int) := by omega
        have hlm : (l.getD lo []).length = 9 := by
          rw [← HNN.out] at hn1
          simp only [List.getD_eq_getElem?_getD, List.getElem?_eq_getElem hn1, Option.getD_some]
          exact HS.out.2.1 _ (List.getElem_mem hn1)
        have C : Hid (∀ W, Calls Try.prog 33 #[.agg (rowA 9 (fn (l.getD lo []))), .agg (rowA 9 (fn x))] W fun e w' => e = .returned (.int .i64 (cmpS (l.getD lo []) x)) ∧ Below W.heap.size W w') := fun W => order_any _ _ hlm hx W
        have y1 : Ints wr g (lo * 9) 9 (fn (l.getD lo [])) := by
          rw [show lo * 9 = 0 + 9 * lo by omega]
          exact Ints.sam (by rw [HNN.out]; exact H.out.2.2.1.below HX.out (by rw [H.out.2.2.2]; omega)) (by rw [HNN.out]; exact hn1)
        have y2 : Ints wr A 0 9 (fn x) := H.out.2.1.ints.below HX.out (by rw [H.out.2.2.2]; omega)
        have hgl : g < wr.heap.size := by have := HX.out.size; rw [H.out.2.2.2] at this; omega
        have hAl : A < wr.heap.size := by have := HX.out.size; rw [H.out.2.2.2] at this; omega
        clear hlt
        go_upto_region 8 with (fail)
        obtain ⟨T, N, hS⟩ := opS
        have l1 := hS.load _ _ _ _ y1.drew
        have l2 := hS.load _ _ _ _ y2.drew
        have Y := Lib.hid (And.intro y1.drew (And.intro y2.drew (And.intro hgl hAl)))
        have sa := hS.agg
        have ss := hS.size
        have sl := hS.len
        have HT := Lib.hid hS
        rw [show Op.load 56 = Op.load T by rw [hS.is]]
        clear hS y1 y2
        generalize fn (l.getD lo []) = f at *
        generalize hc : cmpS (l.getD lo []) x = c at C
        clear hc hlm hlh
        go_region_held3 (fun w' => Sem.run Try.prog (loadCellsFrom ⟨g, lo * 9, none⟩ 0 N #[]) w' = .ok (rowA 9 f) w' ∧ Sem.run Try.prog (loadCellsFrom ⟨A, 0, none⟩ 0 N #[]) w' = .ok (rowA 9 (fn x)) w')
          ((first | exact ⟨l1, l2⟩ | exact ⟨j1, j2⟩))
          (first
            | (go_at_call 33; refine (C.out _).mono ?_; rintro e w1 ⟨rfl, k1⟩; have j1 := HT.out.load _ _ _ _ (Y.out.1.below k1 Y.out.2.2.1); have j2 := HT.out.load _ _ _ _ (Y.out.2.1.below k1 Y.out.2.2.2)))
        all_goals
          go_wp2_with fail
          go_ret2
          exact ⟨⟨_, by rw [EC.out]; rfl⟩, by rw [HA.out]; exact H.out.1.trans ((HX.out.drew.trans (k1.mono HX.out.size)).mono (by rw [H.out.2.2.2]; omega))⟩
      · have hnI : decide ((lo : Int) < n) = false := by simp; omega
        clear hlt
        go_wp2_with fail
        go_quiet (fail)
        go_wp2
        go_ret2
        exact ⟨⟨false, by rw [EC.out]; rfl⟩, by rw [HA.out]; exact below_drewN (H.out.1.trans (HX.out.mono (by rw [H.out.2.2.2]; omega))) _⟩
end Go.Proofs.Ytdndomknjefgkaa.Rg
