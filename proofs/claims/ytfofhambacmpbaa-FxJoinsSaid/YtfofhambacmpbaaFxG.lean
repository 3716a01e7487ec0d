/- Package fx: flags taken over; empty lists; the calls at numbers that clamp nothing. -/
import Derived.Test.YtfofhambacmpbaaFxF
import Derived.Test.YtfofhambacmpbaaMem
namespace Go.Proofs.Ytfofhambacmpbaa
open Go.RowKit

theorem rq_none (n : Nat) : rq n 0 = n := by unfold rq halfOf; simp
theorem rnd_none (v : Int) : rnd v 0 = v := by
  unfold rnd withSign
  rw [rq_none]
  by_cases h : v < 0 <;> simp [h] <;> omega
theorem Blk.ints2 {w : World} {B : Nat} {a b : Int} {t : TypeId} (h : Blk w B #[.int .i64 a, .int .i64 b] t) : Ints w B 0 2 (fun i => if i = 0 then a else b) :=
  ⟨fun i hi => by
    rw [Blk.cell h]
    match i, hi with
    | 0, _ => rfl
    | 1, _ => rfl⟩
theorem Blk.ints3 {w : World} {B : Nat} {a b c : Int} {t : TypeId} (h : Blk w B #[.int .i64 a, .int .i64 b, .int .i64 c] t) : Ints w B 0 3 (fun i => if i = 0 then a else if i = 1 then b else c) :=
  ⟨fun i hi => by
    rw [Blk.cell h]
    match i, hi with
    | 0, _ => rfl
    | 1, _ => rfl
    | 2, _ => rfl⟩
set_option maxHeartbeats 1000000 in
theorem add_none (p o : Nat) (h : Bool) (w : World) (f : Fl p o h w) :
    Calls Try.prog 40 #[.pointer (some ⟨p, o, none⟩), .slice none 0 0] w fun e w' => e = .returned (.int .i64 0) ∧ FlW p o h w w' := by
  go_enter Try.func40, Try.ntmps40
  go_wp2
  go_loopw [10] (fun i wr => i = .int .i64 0 ∧ FlW p o h w wr ∧ Blk wr w.heap.size #[.int .i64 0, .int .u64 0] 27) (fun _ _ => 0)
  case atStart => exact ⟨rfl, (FlW.refl f).alloc _, Blk.made _ _ _ rfl⟩
  case round =>
    obtain ⟨rfl, hF, hc⟩ := hrel
    have e0 := hc.cell 0
    have e1 := hc.cell 1
    simp at e0 e1
    have fr := hF.fl f
    go_wp2_with fail
    refine (round_fx p o 0 0 _ _ fr ⟨by decide, by decide⟩ (by decide)).mono ?_
    rintro e w7 ⟨rfl, kk⟩
    go_wp2_with fail
    go_ret
    exact ⟨ret_int (by decide), flag_is (by rw [show sath (rnd 0 0) = false from by decide]; simp) (hF.trans kk)⟩
set_option maxHeartbeats 1000000 in
theorem dot_none (p o : Nat) (h : Bool) (w : World) (f : Fl p o h w) :
    Calls Try.prog 41 #[.pointer (some ⟨p, o, none⟩), .int .i64 30, .slice none 0 0, .slice none 0 0] w fun e w' => e = .returned (.int .i64 0) ∧ FlW p o h w w' := by
  go_enter Try.func41, Try.ntmps41
  go_wp2
  go_loopw [25] (fun i wr => i = .int .i64 0 ∧ FlW p o h w wr ∧ Blk wr w.heap.size #[.int .i64 0, .int .u64 0] 27) (fun _ _ => 0)
  case atStart => exact ⟨rfl, (FlW.refl f).alloc _, Blk.made _ _ _ rfl⟩
  case round =>
    obtain ⟨rfl, hF, hc⟩ := hrel
    have e0 := hc.cell 0
    have e1 := hc.cell 1
    simp at e0 e1
    have fr := hF.fl f
    go_wp2_with fail
    refine (round_fx p o 0 30 _ _ fr ⟨by decide, by decide⟩ (by decide)).mono ?_
    rintro e w7 ⟨rfl, kk⟩
    go_wp2_with fail
    go_ret
    exact ⟨ret_int (by decide), flag_is (by rw [show sath (rnd 0 30) = false from by decide]; simp) (hF.trans kk)⟩
theorem or_false3 {h a b c : Bool} (hh : (a || b || c) = false) : (h || a || b || c) = h := by cases h <;> cases a <;> cases b <;> cases c <;> simp_all
theorem mul_ok (p o : Nat) (a b : Int) (s : Nat) (v : Int) (h : Bool) (w : World) (f : Fl p o h w) (hs : s ≤ 120) (hv : satv (rnd (satv a * satv b) s) = v) (hh : (sath a || sath b || sath (rnd (satv a * satv b) s)) = false) :
    Calls Try.prog 43 #[.pointer (some ⟨p, o, none⟩), .int .i64 a, .int .i64 b, .int .i64 s] w fun e w' => e = .returned (.int .i64 v) ∧ FlW p o h w w' :=
  (mul_fx p o a b s h w f hs).mono fun _ _ ⟨he, k⟩ => ⟨he.trans (ret_int hv), flag_is (or_false3 hh) k⟩
theorem div_ok (p o : Nat) (a b : Int) (s : Nat) (v : Int) (h : Bool) (w : World) (f : Fl p o h w) (hs : s ≤ 66) (hv : divv (satv a * 2 ^ s) (satv b) = v) (hh : (sath a || sath b || divh (satv a * 2 ^ s) (satv b)) = false) :
    Calls Try.prog 42 #[.pointer (some ⟨p, o, none⟩), .int .i64 a, .int .i64 b, .int .i64 s] w fun e w' => e = .returned (.int .i64 v) ∧ FlW p o h w w' :=
  (div_fx p o a b s h w f hs).mono fun _ _ ⟨he, k⟩ => ⟨he.trans (ret_int hv), flag_is (or_false3 hh) k⟩
theorem sub_ok (p o : Nat) (a b : Int) (v : Int) (h : Bool) (w : World) (f : Fl p o h w) (hv : satv (satv a - satv b) = v) (hh : (sath a || sath b || sath (satv a - satv b)) = false) :
    Calls Try.prog 50 #[.pointer (some ⟨p, o, none⟩), .int .i64 a, .int .i64 b] w fun e w' => e = .returned (.int .i64 v) ∧ FlW p o h w w' :=
  (sub_any p o a b h w f).mono fun _ _ ⟨he, k⟩ => ⟨he.trans (ret_int hv), flag_is (or_false3 hh) k⟩
theorem muldiv_ok (p o : Nat) (a b d : Int) (v : Int) (h : Bool) (w : World) (f : Fl p o h w) (hv : divv (satv a * satv b) (satv d) = v) (hh : (sath a || sath b || (sath d || divh (satv a * satv b) (satv d))) = false) :
    Calls Try.prog 54 #[.pointer (some ⟨p, o, none⟩), .int .i64 a, .int .i64 b, .int .i64 d] w fun e w' => e = .returned (.int .i64 v) ∧ FlW p o h w w' :=
  (muldiv_fx p o a b d h w f).mono fun _ _ ⟨he, k⟩ => ⟨he.trans (ret_int hv), flag_is (by rw [← Bool.or_assoc] at hh; simp only [Bool.or_eq_false_iff] at hh; simp [hh]) k⟩
theorem sat_ok (p o : Nat) (a : Int) (h : Bool) (w : World) (f : Fl p o h w) (h1 : -1152921504606846976 ≤ a) (h2 : a ≤ 1152921504606846976) :
    Calls Try.prog 47 #[.pointer (some ⟨p, o, none⟩), .int .i64 a] w fun e w' => e = .returned (.int .i64 a) ∧ FlW p o h w w' :=
  (sat_any p o a h w f).mono fun _ _ ⟨he, k⟩ => ⟨he.trans (ret_int (satv_in h1 h2).1), flag_is (by rw [(satv_in h1 h2).2, Bool.or_false]) k⟩
theorem clamp_ok (p o : Nat) (a lo hi : Int) (h : Bool) (w : World) (f : Fl p o h w) (h1 : lo ≤ a) (h2 : a ≤ hi) :
    Calls Try.prog 45 #[.pointer (some ⟨p, o, none⟩), .int .i64 a, .int .i64 lo, .int .i64 hi] w fun e w' => e = .returned (.int .i64 a) ∧ FlW p o h w w' :=
  (clamp_any p o a lo hi h w f).mono fun _ _ ⟨he, k⟩ => ⟨he.trans (ret_int (by unfold clampv; rw [if_neg (by omega), if_neg (by omega), if_neg (by omega)])), flag_is (by unfold clamph; rw [decide_eq_false (by omega), decide_eq_false (by omega), decide_eq_false (by omega)]; simp) k⟩
def anyF (hs : Nat → Bool) : Nat → Bool
  | 0 => false
  | k + 1 => anyF hs k || hs k
set_option maxHeartbeats 1000000 in
theorem merge_fx (p o : Nat) (b ob n c : Nat) (ps os : Nat → Nat) (hs : Nat → Bool) (h : Bool) (w : World) (f : Fl p o h w) (hn : n ≤ 9223372036854775807) (hb : b < w.heap.size) (hbp : b ≠ p)
    (hx : ∀ i, i < n → w.cell? ⟨b, ob + i, none⟩ = some (.pointer (some ⟨ps i, os i, none⟩))) (hf : ∀ i, i < n → Fl (ps i) (os i) (hs i) w) (hp : ∀ i, i < n → ps i ≠ p) :
    Calls Try.prog 59 #[.pointer (some ⟨p, o, none⟩), .slice (some ⟨b, ob, none⟩) n c] w fun e w' => e = .returned (.tuple #[]) ∧ FlW p o (h || anyF hs n) w w' := by
  have hx' := Lib.hid hx
  have hf' := Lib.hid hf
  have hp' := Lib.hid hp
  clear hx hf hp
  go_enter Try.func59, Try.ntmps59
  go_wp2
  go_loopw [8] (fun i wr => ∃ k : Nat, k ≤ n ∧ i = .int .i64 k ∧ FlW p o (h || anyF hs k) w wr) (fun i _ => n - (intOf i).toNat)
  case atStart => exact ⟨0, Nat.zero_le _, rfl, flag_is (by simp [anyF]) (FlW.refl f)⟩
  case round =>
    obtain ⟨k, hk, rfl, hF⟩ := hrel
    by_cases hlt : k < n
    · have hltI : (k : Int) < (n : Int) := by omega
      have hxk := (hF.cell (b := b) (i := ob + k) hb (.inl hbp)).trans (hx'.out k hlt)
      have hok := hf'.out k hlt
      have hck := (hF.cell (b := ps k) (i := os k) hok.lt (.inl (hp'.out k hlt))).trans hok.cell
      have fr := hF.fl f
      obtain ⟨fc, ff, fl⟩ := fr
      have HK := Lib.hid (show (h || anyF hs (k + 1)) = ((h || anyF hs k) || hs k) by simp [anyF, Bool.or_assoc])
      generalize hge : (h || anyF hs k) = g at *
      have hge' := Lib.hid hge
      clear hge
      cases g
      · go_wp2_with fail
        go_roundw
        case rel => exact ⟨k + 1, by omega, by go_num, flag_is (by rw [HK.out]; simp) (hF.trans (FlW.set _ _))⟩
        case measure => simp [intOf]; omega
      · go_wp2_with fail
        go_roundw
        case rel => exact ⟨k + 1, by omega, by go_num, flag_is (by rw [HK.out]; simp) (hF.trans (FlW.set _ _))⟩
        case measure => simp [intOf]; omega
    · have hge : ¬ (k : Int) < (n : Int) := by omega
      obtain rfl : k = n := by omega
      go_wp2_with fail
      exact bodyPost_end (v := .tuple #[]) (results_none rfl _ _ _) rfl ⟨rfl, hF⟩
end Go.Proofs.Ytfofhambacmpbaa
