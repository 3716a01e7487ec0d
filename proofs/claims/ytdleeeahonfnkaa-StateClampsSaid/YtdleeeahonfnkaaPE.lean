/- Package fx: sums of products. -/
import Derived.Test.YtdleeeahonfnkaaPA
import Derived.Test.YtdleeeahonfnkaaPD
import Derived.Deep.DeepCutAuto

/- FxF -/
namespace Go.Proofs.Ytdleeeahonfnkaa
open Go.RowKit

theorem dot_out (p o : Nat) (A B : Value) (s : Int) (h : Bool) (w : World) (f : Fl p o h w) (hs : s < 0 ∨ 120 < s) :
    Calls Try.prog 98 #[.pointer (some ⟨p, o, none⟩), .int .i64 s, A, B] w fun e w' => e = .returned (.int .i64 0) ∧ FlW p o true w w' := by
  obtain ⟨fc, ff, fl⟩ := f
  by_cases g1 : s < 0
  · go_enter Try.func98, Try.ntmps98
    go_wp2
    go_ret
    exact ⟨rfl, FlW.set _ _⟩
  · have g2 : 120 < s := by omega
    go_enter Try.func98, Try.ntmps98
    go_wp2
    go_ret
    exact ⟨rfl, FlW.set _ _⟩
set_option maxHeartbeats 4000000 in
theorem dot_fx (p o : Nat) (a ao an ac b bo bn bc : Nat) (xs ys : Nat → Int) (s : Nat) (N : Nat) (h : Bool) (w : World) (f : Fl p o h w) (hs : s ≤ 120) (hN : N ≤ 100) (hNa : N ≤ an) (hNb : N ≤ bn) (hNe : min (min an bn) 100 = N)
    (ha : a < w.heap.size) (hb : b < w.heap.size) (hap : a ≠ p) (hbp : b ≠ p) (hx : Ints w a ao N xs) (hy : Ints w b bo N ys) :
    Calls Try.prog 98 #[.pointer (some ⟨p, o, none⟩), .int .i64 s, .slice (some ⟨a, ao, none⟩) an ac, .slice (some ⟨b, bo, none⟩) bn bc] w fun e w' => e = .returned (.int .i64 (satv (rnd (sumP xs ys N) s))) ∧ FlW p o (h || anyP xs ys N || sath (rnd (sumP xs ys N) s)) w w' := by
  have g1 : ¬ (s : Int) < 0 := by omega
  have g2 : ¬ (120 : Int) < s := by omega
  have HN := Lib.hid hNe
  clear hNe
  go_enter Try.func98, Try.ntmps98
  go_upto_region 5 with (fail)
  generalize hW : World.alloc w _ = W
  have hR0 : W.heap[w.heap.size]? = some (.cells #[.int .i64 (wh (sumP xs ys 0)), .int .u64 (wl (sumP xs ys 0))] 24 (0, 0)) := by subst hW; exact heap_alloc_new w _
  have hz0 : w.heap.size < W.heap.size := by subst hW; simp
  have k0 : FlW p o (h || anyP xs ys 0) w W := by subst hW; exact flag_is (by simp [anyP]) ((FlW.refl f).alloc _)
  clear hW
  go_cut [24, 25] (fun s24 s25 wx => s24 = .int .i64 (N : Int) ∧ s25 = .int .i64 0 ∧ wx = W)
  case first =>
    go_wp2_with fail
    all_goals (go_meet; exact ⟨by have := HN.out; congr 1; omega, rfl, rfl⟩)
  case rest =>
    obtain ⟨rfl, rfl, rfl⟩ := hcut
    go_wp2_with fail
    go_loopw [25] (fun i wr => ∃ k : Nat, k ≤ N ∧ i = .int .i64 k ∧ FlW p o (h || anyP xs ys k) w wr ∧ w.heap.size < wr.heap.size ∧ wr.heap[w.heap.size]? = some (.cells #[.int .i64 (wh (sumP xs ys k)), .int .u64 (wl (sumP xs ys k))] 24 (0, 0))) (fun i _ => N - (intOf i).toNat)
    case atStart => exact ⟨0, Nat.zero_le _, rfl, k0, hz0, hR0⟩
    case round =>
      obtain ⟨k, hk, rfl, hF, hz, hc⟩ := hrel
      by_cases hlt : k < N
      · have hxk := (hF.cell (b := a) (i := ao + k) ha (.inl hap)).trans (hx.at_ k hlt)
        have hyk := (hF.cell (b := b) (i := bo + k) hb (.inl hbp)).trans (hy.at_ k hlt)
        have e0 : wr.cell? ⟨w.heap.size, 0, none⟩ = some (.int .i64 (wh (sumP xs ys k))) := by rw [cell_of_row wr _ _ _ _ _ hc]; rfl
        have e1 : wr.cell? ⟨w.heap.size, 1, none⟩ = some (.int .u64 (wl (sumP xs ys k))) := by rw [cell_of_row wr _ _ _ _ _ hc]; rfl
        have fr := hF.fl f
        have hRp : w.heap.size ≠ p := by have := f.lt; omega
        have ha' : a < wr.heap.size := by omega
        have hb' : b < wr.heap.size := by omega
        have l1 := satv_lo (xs k)
        have l2 := satv_hi (xs k)
        have l3 := satv_lo (ys k)
        have l4 := satv_hi (ys k)
        have hltI : (k : Int) < (N : Int) := by omega
        have hltA : (k : Int) < (an : Int) := by omega
        have hltB : (k : Int) < (bn : Int) := by omega
        have hk0 : (0 : Int) ≤ (k : Int) := by omega
        have hI1 := sumP_in xs ys k (by omega)
        have hI2 := mul_sat_in (xs k) (ys k)
        have hI3 : InW (sumP xs ys k + satv (xs k) * satv (ys k)) := sumP_in xs ys (k + 1) (by omega)
        go_upto_region 8 with (fail)
        go_region_with (first
            | (go_at_call_of 24 (Value.int .i64 (xs k)); refine (sat_any p o (xs k) _ _ (by first | exact fr | exact fr.drew)).mono ?_; rintro e w4 ⟨rfl, kk⟩; have c0 := (kk.cell hz (.inl hRp)).trans e0; have c1 := (kk.cell hz (.inl hRp)).trans e1; have z4 := Nat.lt_of_lt_of_le hz kk.size; have b4 := (kk.block hz hRp).trans hc; have y4 := (kk.cell hb' (.inl hbp)).trans hyk)
            | (go_at_call_of 24 (Value.int .i64 (ys k)); refine (sat_any p o (ys k) _ _ (kk.fl (by first | exact fr | exact fr.drew))).mono ?_; rintro e w5 ⟨rfl, kl⟩; have d0 := (kl.cell z4 (.inl hRp)).trans c0; have d1 := (kl.cell z4 (.inl hRp)).trans c1; have z5 := Nat.lt_of_lt_of_le z4 kl.size; have b5 := (kl.block z4 hRp).trans b4)
            | (go_at_call 84; refine (wmul_any (satv (xs k)) (satv (ys k)) _ (by omega) (by omega) (by omega) (by omega)).mono ?_; rintro e w6 ⟨rfl, hb6⟩; have q0 := (hb6.cell z5).trans d0; have q1 := (hb6.cell z5).trans d1; have z6 := Nat.lt_of_lt_of_le z5 hb6.size; have b6 := (hb6.block _ z5).trans b5)
            | (go_at_call 81; refine (wadd_made _ _ (sumP xs ys k) (satv (xs k) * satv (ys k)) _ rfl hI1 hI2 hI3).mono ?_; rintro e w7 ⟨rfl, hb7⟩; have z7 := Nat.lt_of_lt_of_le z6 hb7.size; have b7 := (hb7.block _ z6).trans b6; have r0 : w7.frozen? ⟨w.heap.size, 0, none⟩ = false := free_of_block b7 0; have r1 : w7.frozen? ⟨w.heap.size, 1, none⟩ = false := free_of_block b7 1; have i0 := (hb7.cell z6).trans q0; have i1 := (hb7.cell z6).trans q1; have m7 := ((kk.trans kl).then hb6).then hb7))
        all_goals
          go_wp2_with fail
          go_roundw
          case rel =>
            refine ⟨k + 1, by omega, by go_num, flag_is (by simp [anyP, Bool.or_assoc]) (((FlW.trans (by first | exact hF.drew | exact hF) m7).other (Nat.le_refl _) _).other (Nat.le_refl _) _), ?_, ?_⟩
            · rw [size_set, size_set]; exact z7
            · exact heap_set2 b7 _ _
          case measure => simp [intOf]; omega
      · have hge : ¬ (k : Int) < (N : Int) := by omega
        obtain rfl : k = N := by omega
        have e0 : wr.cell? ⟨w.heap.size, 0, none⟩ = some (.int .i64 (wh (sumP xs ys k))) := by rw [cell_of_row wr _ _ _ _ _ hc]; rfl
        have e1 : wr.cell? ⟨w.heap.size, 1, none⟩ = some (.int .u64 (wl (sumP xs ys k))) := by rw [cell_of_row wr _ _ _ _ _ hc]; rfl
        have fr := hF.fl f
        go_wp2_with fail
        refine (round_fx p o (sumP xs ys k) s _ _ fr (sumP_in xs ys k hN) (by omega)).mono ?_
        rintro e w7 ⟨rfl, kk⟩
        go_wp2_with fail
        go_ret
        exact ⟨rfl, hF.trans kk⟩
end Go.Proofs.Ytdleeeahonfnkaa

/- FxG -/
namespace Go.Proofs.Ytdleeeahonfnkaa
open Go.RowKit

theorem rq_none (n : Nat) : rq n 0 = n := by unfold rq halfOf; simp
theorem rnd_none (v : Int) : rnd v 0 = v := by
  unfold rnd withSign
  rw [rq_none]
  by_cases h : v < 0 <;> simp [h] <;> omega
theorem Blk.ints2 {w : World} {B : Nat} {a b : Int} {t : TypeId} (h : Blk w B #[.int .i64 a, .int .i64 b] t) : Ints w B 0 2 (fun i => if i = 0 then a else b) :=
  ⟨fun i hi => by
    rw [Blk.cell h]
    match i, hi with
    | 0, _ => rfl
    | 1, _ => rfl⟩
theorem Blk.ints3 {w : World} {B : Nat} {a b c : Int} {t : TypeId} (h : Blk w B #[.int .i64 a, .int .i64 b, .int .i64 c] t) : Ints w B 0 3 (fun i => if i = 0 then a else if i = 1 then b else c) :=
  ⟨fun i hi => by
    rw [Blk.cell h]
    match i, hi with
    | 0, _ => rfl
    | 1, _ => rfl
    | 2, _ => rfl⟩
set_option maxHeartbeats 1000000 in
theorem add_none (p o : Nat) (h : Bool) (w : World) (f : Fl p o h w) :
    Calls Try.prog 26 #[.pointer (some ⟨p, o, none⟩), .slice none 0 0] w fun e w' => e = .returned (.int .i64 0) ∧ FlW p o h w w' := by
  go_enter Try.func26, Try.ntmps26
  go_wp2
  go_loopw [10] (fun i wr => i = .int .i64 0 ∧ FlW p o h w wr ∧ Blk wr w.heap.size #[.int .i64 0, .int .u64 0] 24) (fun _ _ => 0)
  case atStart => exact ⟨rfl, (FlW.refl f).alloc _, Blk.made _ _ _ rfl⟩
  case round =>
    obtain ⟨rfl, hF, hc⟩ := hrel
    have e0 := hc.cell 0
    have e1 := hc.cell 1
    simp at e0 e1
    have fr := hF.fl f
    go_wp2_with fail
    refine (round_fx p o 0 0 _ _ fr ⟨by decide, by decide⟩ (by decide)).mono ?_
    rintro e w7 ⟨rfl, kk⟩
    go_wp2_with fail
    go_ret
    exact ⟨ret_int (by decide), flag_is (by rw [show sath (rnd 0 0) = false from by decide]; simp) (hF.trans kk)⟩
set_option maxHeartbeats 1000000 in
theorem dot_none (p o : Nat) (h : Bool) (w : World) (f : Fl p o h w) :
    Calls Try.prog 98 #[.pointer (some ⟨p, o, none⟩), .int .i64 30, .slice none 0 0, .slice none 0 0] w fun e w' => e = .returned (.int .i64 0) ∧ FlW p o h w w' := by
  go_enter Try.func98, Try.ntmps98
  go_wp2
  go_loopw [25] (fun i wr => i = .int .i64 0 ∧ FlW p o h w wr ∧ Blk wr w.heap.size #[.int .i64 0, .int .u64 0] 24) (fun _ _ => 0)
  case atStart => exact ⟨rfl, (FlW.refl f).alloc _, Blk.made _ _ _ rfl⟩
  case round =>
    obtain ⟨rfl, hF, hc⟩ := hrel
    have e0 := hc.cell 0
    have e1 := hc.cell 1
    simp at e0 e1
    have fr := hF.fl f
    go_wp2_with fail
    refine (round_fx p o 0 30 _ _ fr ⟨by decide, by decide⟩ (by decide)).mono ?_
    rintro e w7 ⟨rfl, kk⟩
    go_wp2_with fail
    go_ret
    exact ⟨ret_int (by decide), flag_is (by rw [show sath (rnd 0 30) = false from by decide]; simp) (hF.trans kk)⟩
theorem or_false3 {h a b c : Bool} (hh : (a || b || c) = false) : (h || a || b || c) = h := by cases h <;> cases a <;> cases b <;> cases c <;> simp_all
theorem mul_ok (p o : Nat) (a b : Int) (s : Nat) (v : Int) (h : Bool) (w : World) (f : Fl p o h w) (hs : s ≤ 120) (hv : satv (rnd (satv a * satv b) s) = v) (hh : (sath a || sath b || sath (rnd (satv a * satv b) s)) = false) :
    Calls Try.prog 30 #[.pointer (some ⟨p, o, none⟩), .int .i64 a, .int .i64 b, .int .i64 s] w fun e w' => e = .returned (.int .i64 v) ∧ FlW p o h w w' :=
  (mul_fx p o a b s h w f hs).mono fun _ _ ⟨he, k⟩ => ⟨he.trans (ret_int hv), flag_is (or_false3 hh) k⟩
theorem div_ok (p o : Nat) (a b : Int) (s : Nat) (v : Int) (h : Bool) (w : World) (f : Fl p o h w) (hs : s ≤ 66) (hv : divv (satv a * 2 ^ s) (satv b) = v) (hh : (sath a || sath b || divh (satv a * 2 ^ s) (satv b)) = false) :
    Calls Try.prog 32 #[.pointer (some ⟨p, o, none⟩), .int .i64 a, .int .i64 b, .int .i64 s] w fun e w' => e = .returned (.int .i64 v) ∧ FlW p o h w w' :=
  (div_fx p o a b s h w f hs).mono fun _ _ ⟨he, k⟩ => ⟨he.trans (ret_int hv), flag_is (or_false3 hh) k⟩
theorem sub_ok (p o : Nat) (a b : Int) (v : Int) (h : Bool) (w : World) (f : Fl p o h w) (hv : satv (satv a - satv b) = v) (hh : (sath a || sath b || sath (satv a - satv b)) = false) :
    Calls Try.prog 28 #[.pointer (some ⟨p, o, none⟩), .int .i64 a, .int .i64 b] w fun e w' => e = .returned (.int .i64 v) ∧ FlW p o h w w' :=
  (sub_any p o a b h w f).mono fun _ _ ⟨he, k⟩ => ⟨he.trans (ret_int hv), flag_is (or_false3 hh) k⟩
theorem muldiv_ok (p o : Nat) (a b d : Int) (v : Int) (h : Bool) (w : World) (f : Fl p o h w) (hv : divv (satv a * satv b) (satv d) = v) (hh : (sath a || sath b || (sath d || divh (satv a * satv b) (satv d))) = false) :
    Calls Try.prog 34 #[.pointer (some ⟨p, o, none⟩), .int .i64 a, .int .i64 b, .int .i64 d] w fun e w' => e = .returned (.int .i64 v) ∧ FlW p o h w w' :=
  (muldiv_fx p o a b d h w f).mono fun _ _ ⟨he, k⟩ => ⟨he.trans (ret_int hv), flag_is (by rw [← Bool.or_assoc] at hh; simp only [Bool.or_eq_false_iff] at hh; simp [hh]) k⟩
theorem sat_ok (p o : Nat) (a : Int) (h : Bool) (w : World) (f : Fl p o h w) (h1 : -1152921504606846976 ≤ a) (h2 : a ≤ 1152921504606846976) :
    Calls Try.prog 24 #[.pointer (some ⟨p, o, none⟩), .int .i64 a] w fun e w' => e = .returned (.int .i64 a) ∧ FlW p o h w w' :=
  (sat_any p o a h w f).mono fun _ _ ⟨he, k⟩ => ⟨he.trans (ret_int (satv_in h1 h2).1), flag_is (by rw [(satv_in h1 h2).2, Bool.or_false]) k⟩
theorem clamp_ok (p o : Nat) (a lo hi : Int) (h : Bool) (w : World) (f : Fl p o h w) (h1 : lo ≤ a) (h2 : a ≤ hi) :
    Calls Try.prog 22 #[.pointer (some ⟨p, o, none⟩), .int .i64 a, .int .i64 lo, .int .i64 hi] w fun e w' => e = .returned (.int .i64 a) ∧ FlW p o h w w' :=
  (clamp_any p o a lo hi h w f).mono fun _ _ ⟨he, k⟩ => ⟨he.trans (ret_int (by unfold clampv; rw [if_neg (by omega), if_neg (by omega), if_neg (by omega)])), flag_is (by unfold clamph; rw [decide_eq_false (by omega), decide_eq_false (by omega), decide_eq_false (by omega)]; simp) k⟩
def anyF (hs : Nat → Bool) : Nat → Bool
  | 0 => false
  | k + 1 => anyF hs k || hs k
set_option maxHeartbeats 1000000 in
theorem merge_fx (p o : Nat) (b ob n c : Nat) (ps os : Nat → Nat) (hs : Nat → Bool) (h : Bool) (w : World) (f : Fl p o h w) (hn : n ≤ 9223372036854775807) (hb : b < w.heap.size) (hbp : b ≠ p)
    (hx : ∀ i, i < n → w.cell? ⟨b, ob + i, none⟩ = some (.pointer (some ⟨ps i, os i, none⟩))) (hf : ∀ i, i < n → Fl (ps i) (os i) (hs i) w) (hp : ∀ i, i < n → ps i ≠ p) :
    Calls Try.prog 99 #[.pointer (some ⟨p, o, none⟩), .slice (some ⟨b, ob, none⟩) n c] w fun e w' => e = .returned (.tuple #[]) ∧ FlW p o (h || anyF hs n) w w' := by
  have hx' := Lib.hid hx
  have hf' := Lib.hid hf
  have hp' := Lib.hid hp
  clear hx hf hp
  go_enter Try.func99, Try.ntmps99
  go_wp2
  go_loopw [8] (fun i wr => ∃ k : Nat, k ≤ n ∧ i = .int .i64 k ∧ FlW p o (h || anyF hs k) w wr) (fun i _ => n - (intOf i).toNat)
  case atStart => exact ⟨0, Nat.zero_le _, rfl, flag_is (by simp [anyF]) (FlW.refl f)⟩
  case round =>
    obtain ⟨k, hk, rfl, hF⟩ := hrel
    by_cases hlt : k < n
    · have hltI : (k : Int) < (n : Int) := by omega
      have hxk := (hF.cell (b := b) (i := ob + k) hb (.inl hbp)).trans (hx'.out k hlt)
      have hok := hf'.out k hlt
      have hck := (hF.cell (b := ps k) (i := os k) hok.lt (.inl (hp'.out k hlt))).trans hok.cell
      have fr := hF.fl f
      obtain ⟨fc, ff, fl⟩ := fr
      have HK := Lib.hid (show (h || anyF hs (k + 1)) = ((h || anyF hs k) || hs k) by simp [anyF, Bool.or_assoc])
      generalize hge : (h || anyF hs k) = g at *
      have hge' := Lib.hid hge
      clear hge
      cases g
      · go_wp2_with fail
        go_roundw
        case rel => exact ⟨k + 1, by omega, by go_num, flag_is (by rw [HK.out]; simp) (hF.trans (FlW.set _ _))⟩
        case measure => simp [intOf]; omega
      · go_wp2_with fail
        go_roundw
        case rel => exact ⟨k + 1, by omega, by go_num, flag_is (by rw [HK.out]; simp) (hF.trans (FlW.set _ _))⟩
        case measure => simp [intOf]; omega
    · have hge : ¬ (k : Int) < (n : Int) := by omega
      obtain rfl : k = n := by omega
      go_wp2_with fail
      exact bodyPost_end (v := .tuple #[]) (results_none rfl _ _ _) rfl ⟨rfl, hF⟩
end Go.Proofs.Ytdleeeahonfnkaa
