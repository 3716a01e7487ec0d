/- The document's own covariances: a number told. -/
import Derived.Test.YtaehmhdcniegkaaTriF
import Derived.Deep.DeepCutAuto
namespace Go.Proofs.Ytaehmhdcniegkaa
open Go.RowKit

theorem numInfo : (Try.prog.info? 2).map (fun i => (i.zero, i.size, i.bytes)) = some (some (.int .i64 0), 1, 8) := by kernel_rfl
theorem qm_mulv (p o : Nat) (a b : Int) (h : Bool) (w : World) (f : Fl p o h w) :
    Calls Try.prog 116 #[.pointer (some ⟨p, o, none⟩), .int .i64 a, .int .i64 b] w fun e w' => e = .returned (.int .i64 (mulv a b)) ∧ FlW p o (h || mulh a b) w w' := by
  refine (qm p o a b h w f).mono ?_
  rintro e w' ⟨rfl, k⟩
  exact ⟨rfl, flag_is (by simp [mulh, Bool.or_assoc]) k⟩
/-- Two slices that share no block. -/
def Apart (v u : Value) : Prop := ∀ k, v.ownBlock = some k → u.ownBlock ≠ some k
set_option maxHeartbeats 4000000 in
theorem rat_in (p o b bo : Nat) (f : Nat → Int) (i j m : Nat) (h : Bool) (w : World) (fl : Fl p o h w) (hb : b < w.heap.size) (hbp : b ≠ p) (hx : Ints w b bo 300 f) (hi : i < 24) (hj : j < 24) (hm : max (i : Int) (j : Int) = (m : Int)) :
    Calls Try.prog 22 #[.pointer (some ⟨p, o, none⟩), .pointer (some ⟨b, bo, none⟩), .int .i64 i, .int .i64 j] w fun e w' => e = .returned (.int .i64 (satv (rnd (sumP (atX f i m) (atY f j m) (24 - m)) 30))) ∧
      FlW p o (h || anyY f j m (24 - m) || anyP (atX f i m) (atY f j m) (24 - m) || sath (rnd (sumP (atX f i m) (atY f j m) (24 - m)) 30)) w w' := by
  have hpw := fl.lt
  have g1 : ¬ (i : Int) < 0 := by omega
  have g2 : ¬ (j : Int) < 0 := by omega
  have g3 : ¬ (24 : Int) ≤ (i : Int) := by omega
  have g4 : ¬ (24 : Int) ≤ (j : Int) := by omega
  have hm24 : m < 24 := by omega
  have HM := Lib.hid hm
  clear hm
  go_enter Try.func22, Try.ntmps22
  go_upto_if 29 with (fail)
  go_cut [9] (fun s9 wx => s9 = .int .i64 (m : Int) ∧ wx = w)
  case first =>
    go_wp2_with fail
    all_goals (go_meet; exact ⟨by have := HM.out; congr 1; omega, rfl⟩)
  case rest =>
    obtain ⟨rfl, rfl⟩ := hcut
    go_wp2_with fail
    go_loopw [9, 10, 11] (fun i' va vx wr => ∃ k : Nat, k ≤ 24 - m ∧ i' = .int .i64 ((m + k : Nat) : Int) ∧ OwnI wr 2 wc.heap.size va k (atX f i m) ∧ OwnI wr 2 wc.heap.size vx k (atY f j m) ∧ Apart va vx ∧ FlW p o (h || anyY f j m k) wc wr) (fun i' _ _ _ => 24 - (intOf i').toNat)
    case atStart => exact ⟨0, by omega, rfl, OwnI.nil _ _ _ _, OwnI.nil _ _ _ _, (fun k hk => by cases hk), flag_is (by simp [anyY]) (FlW.refl fl)⟩
    case round =>
      obtain ⟨k, hk, rfl, hX, hY, hA, hF⟩ := hrel
      have fr := hF.fl fl
      have hs := hF.size
      by_cases hlt : k < 24 - m
      · have hlt2 : m + k < 24 := by omega
        have hxw : Ints wr b bo 300 f := ⟨fun q hq => (hF.cell hb (.inl hbp)).trans (hx.at_ q hq)⟩
        have HNX := Lib.hid (show uF f i ((m + k : Nat) : Int) = atX f i m k from rfl)
        have HNY := Lib.hid (show mulv (uF f j ((m + k : Nat) : Int)) (f (276 + (m + k))) = atY f j m k from rfl)
        have HNA := Lib.hid (show anyY f j m (k + 1) = (anyY f j m k || mulh (uF f j ((m + k : Nat) : Int)) (f (276 + (m + k)))) from rfl)
        generalize hq : m + k = q at *
        have hltI : (q : Int) < 24 := by omega
        have hk0 : (0 : Int) ≤ (q : Int) := by omega
        go_wp2_with fail
        refine (ru_any b bo f i q wr hxw).mono ?_
        rintro e w3 ⟨rfl, hb3⟩
        have hX3 := (hX.call hb3).alloc (.cells #[.int .i64 (uF f i q)] 2)
        have hY3 := (hY.call hb3).alloc (.cells #[.int .i64 (uF f i q)] 2)
        have hF3 := (hF.then hb3).alloc (.cells #[.int .i64 (uF f i q)] 2)
        have hz3 := hF3.size
        have hc3 : (w3.alloc (.cells #[.int .i64 (uF f i q)] 2)).cell? ⟨w3.heap.size, 0, none⟩ = some (.int .i64 (atX f i m k)) := by
          rw [(Blk.made w3 #[.int .i64 (uF f i q)] 2 rfl).cell 0, ← HNX.out]; rfl
        have H3 := Lib.hid (And.intro hX3 (And.intro hY3 (And.intro hF3 (And.intro hz3 hc3))))
        clear hX3 hY3 hF3 hz3 hc3 hX hY hF fr hxw
        go_wp2_with (at_builtin; refine own_append _ rfl _ _ 34 rfl 2 Try.underlying34 numInfo wc.heap.size k u10 (atX f i m) rfl H3.out.1 w3.heap.size 1 rfl H3.out.2.2.2.2 (by omega) H3.out.2.2.2.1 ?_)
        intro va' w4 hX4 hg4 hat4
        obtain ⟨hX3, hY3, hF3, hz3, hc3⟩ := H3.out
        clear H3
        have hY4 := hY3.grown hg4 (fun r hr e => hA r e hr)
        have hA4 : Apart va' u11 := fun r hr e => by
          rcases hat4 with h1 | h1
          · exact hA r (h1.symm.trans hr) e
          · have := (hY3.blk e).2
            rw [h1] at hr
            injection hr with hr
            simp at this
            omega
        have hF4 := hF3.grown hg4 (fun r hr => (hX3.blk hr).1)
        have hz4 := hF4.size
        have hx4 : Ints w4 b bo 300 f := ⟨fun q hq => (hF4.cell hb (.inl hbp)).trans (hx.at_ q hq)⟩
        have D4 := hx4.at_ (276 + q) (by omega)
        rw [← Nat.add_assoc] at D4
        have f4 := hF4.fl fl
        have hb4 : b < w4.heap.size := by omega
        clear hX3 hY3 hF3 hz3 hc3 hg4 hat4 hA
        have HC6 := Lib.hid (fun w6 : World => (show (w6.alloc (.cells #[.int .i64 (mulv (uF f j q) (f (276 + q)))] 2)).cell? ⟨w6.heap.size, 0, none⟩ = some (.int .i64 (atY f j m k)) by
          rw [(Blk.made w6 #[.int .i64 (mulv (uF f j q) (f (276 + q)))] 2 rfl).cell 0, ← HNY.out]; rfl))
        go_upto_region 11 with (fail)
        go_region_law (first
          | (have _t := hc6; with_reducible refine step_own _ ?_ _ _ 34 ?_ 2 Try.underlying34 numInfo wc.heap.size k u11 (atY f j m) ?_ (hY6.alloc _) w6.heap.size 1 ?_ hc6 ?_ hz6 ?_; rfl; rfl; rfl; rfl; omega; intro vx' w7 hY7 hg7 hat7)
          | (have _t := hc6; refine step_own _ rfl _ _ 34 rfl 2 Try.underlying34 numInfo wc.heap.size k u11 (atY f j m) rfl (hY6.alloc _) w6.heap.size 1 rfl hc6 (by omega) hz6 ?_; intro vx' w7 hY7 hg7 hat7)
          | (go_simp; go_at_call 20; go_loud (refine (ru_any b bo f j q _ hx4.drew).mono ?_; rintro e w5 ⟨rfl, hb5⟩; have d5 := (cellAt (b := b) (i := bo + 276 + q) hb5 hb4).trans D4; have f5 := f4.drew.below hb5; have hY5 := hY4.drew.call hb5; have hX5 := hX4.drew.call hb5; have F5 := hF4.drew.then hb5))
          | (go_simp; go_at_call 116; go_loud (refine (qm_mulv p o (uF f j q) (f (276 + q)) _ _ f5).mono ?_; rintro e w6 ⟨rfl, k6⟩; have hY6 := hY5.flag hpw k6; have hX6 := hX5.flag hpw k6; have F6 := F5.trans k6; have hc6 := HC6.out w6; have hz6 := (F6.alloc (.cells #[.int .i64 (mulv (uF f j q) (f (276 + q)))] 2)).size)))
        all_goals
          have hX7 := (hX6.alloc (.cells #[.int .i64 (mulv (uF f j q) (f (276 + q)))] 2)).grown hg7 (fun r hr e => hA4 r hr e)
          have hA7 : Apart va' vx' := fun r hr e => by
            rcases hat7 with h1 | h1
            · exact hA4 r hr (h1.symm.trans e)
            · have := (hX6.blk hr).2
              rw [h1] at e
              injection e with e
              simp at e
              omega
          have F7 := (F6.alloc (.cells #[.int .i64 (mulv (uF f j q) (f (276 + q)))] 2)).grown hg7 (fun r hr => (hY6.blk hr).1)
          have H := Lib.hid (And.intro hX7 (And.intro hY7 (And.intro hA7 F7)))
          clear hX7 hY7 hA7 F7 hX6 hY6 F6 hX5 hY5 F5 hX4 hY4 hF4 hA4 hx4 D4 d5 f4 f5 hc6 hz6 HC6 hg7 hat7
          go_wp2_with fail
          go_roundw
          case rel =>
            obtain ⟨hX7, hY7, hA7, F7⟩ := H.out
            exact ⟨k + 1, by omega, by rw [← Nat.add_assoc, hq]; go_num, hX7, hY7, hA7, flag_is (by rw [HNA.out, Bool.or_assoc]) F7⟩
          case measure => simp [intOf]; omega
      · obtain rfl : k = 24 - m := by omega
        have e24 : m + (24 - m) = 24 := by omega
        rw [e24, show ((24 : Nat) : Int) = 24 from rfl]
        clear e24 hA
        obtain ⟨ga, ca, rfl, ga0, ga1, _, _, hxi⟩ := hX.cells (by omega)
        obtain ⟨gx, cx, rfl, gx0, gx1, _, _, hyi⟩ := hY.cells (by omega)
        have hn : 24 - m ≤ 100 := by omega
        have na : ga ≠ p := by omega
        have nx : gx ≠ p := by omega
        clear hX hY hx hlt hk
        go_wp2_with fail
        refine (qdot p o ga 0 ca gx 0 cx (atX f i m) (atY f j m) 30 (24 - m) _ _ fr (by omega) hn ga1 gx1 na nx hxi hyi).mono ?_
        rintro e w5 ⟨rfl, k5⟩
        go_wp2_with fail
        go_ret
        exact ⟨rfl, hF.trans k5⟩
set_option maxHeartbeats 1000000 in
theorem rat_any (p o b bo : Nat) (f : Nat → Int) (i j : Int) (h : Bool) (w : World) (fl : Fl p o h w) (hb : b < w.heap.size) (hbp : b ≠ p) (hx : Ints w b bo 300 f) :
    Calls Try.prog 22 #[.pointer (some ⟨p, o, none⟩), .pointer (some ⟨b, bo, none⟩), .int .i64 i, .int .i64 j] w fun e w' => e = .returned (.int .i64 (atV f i j)) ∧ FlW p o (h || atH f i j) w w' := by
  by_cases hc : i < 0 ∨ j < 0 ∨ 24 ≤ i ∨ 24 ≤ j
  · have HV := Lib.hid (show atV f i j = 0 ∧ atH f i j = false by
      have : (inN i && inN j) = false := by
        cases hi : inN i
        · rfl
        · have := (inN_iff i).1 hi
          rw [(inN_no j).2 (by omega)]; rfl
      unfold atV atH
      rw [this]; exact ⟨rfl, rfl⟩)
    rcases (show (i < 0) ∨ (¬ i < 0 ∧ j < 0) ∨ (¬ i < 0 ∧ ¬ j < 0 ∧ 24 ≤ i) ∨ (¬ i < 0 ∧ ¬ j < 0 ∧ ¬ 24 ≤ i ∧ 24 ≤ j) by omega) with g1 | ⟨g1, g2⟩ | ⟨g1, g2, g3⟩ | ⟨g1, g2, g3, g4⟩
    all_goals
      clear hc
      go_enter Try.func22, Try.ntmps22
      go_wp2_with fail
      go_ret
      exact ⟨ret_int HV.out.1.symm, flag_is (by rw [HV.out.2, Bool.or_false]) (FlW.refl fl)⟩
  · obtain ⟨a, rfl⟩ := Int.eq_ofNat_of_zero_le (show 0 ≤ i by omega)
    obtain ⟨c, rfl⟩ := Int.eq_ofNat_of_zero_le (show 0 ≤ j by omega)
    refine (rat_in p o b bo f a c (max a c) h w fl hb hbp hx (by omega) (by omega) (max_nat a c)).mono ?_
    rintro e w' ⟨rfl, k⟩
    have em : (max (a : Int) (c : Int)).toNat = max a c := by omega
    have hi := (inN_iff (a : Int)).2 (by omega)
    have hj := (inN_iff (c : Int)).2 (by omega)
    refine ⟨ret_int ?_, flag_is ?_ k⟩
    · unfold atV atS; rw [hi, hj, em]; rfl
    · unfold atH atS; rw [hi, hj, em]; simp [Bool.or_assoc]
end Go.Proofs.Ytaehmhdcniegkaa
