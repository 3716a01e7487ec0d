/- Inertial samples: are they good? Sums of two numbers. -/
import Derived.Test.YtdndomknjefgkaaDnA
import Derived.Test.YtdndomknjefgkaaRgM
namespace Go.Proofs.Ytdndomknjefgkaa.Rg
open Go.RowKit
theorem rnd_id (v : Int) : rnd v 0 = v := by
  unfold rnd rq halfOf withSign
  by_cases h : v < 0
  · simp [h]; omega
  · simp [h]; omega
theorem satv_id {a : Int} (h1 : -1152921504606846976 ≤ a) (h2 : a ≤ 1152921504606846976) : satv a = a := by
  unfold satv; rw [if_neg (by omega), if_neg (by omega)]
theorem sath_id {a : Int} (h1 : -1152921504606846976 ≤ a) (h2 : a ≤ 1152921504606846976) : sath a = false := by
  unfold sath; rw [decide_eq_false (by omega), decide_eq_false (by omega)]; rfl
/-- Two numbers of moderate size are added, and no flag is set. -/
theorem add2_fx (p o : Nat) (b c : Nat) (x y : Int) (h : Bool) (w : World) (f : Fl p o h w) (hb : b < w.heap.size) (hbp : b ≠ p) (h0 : w.cell? ⟨b, 0, none⟩ = some (.int .i64 x)) (h1 : w.cell? ⟨b, 1, none⟩ = some (.int .i64 y))
    (hx : -288230376151711744 ≤ x ∧ x ≤ 288230376151711744) (hy : -288230376151711744 ≤ y ∧ y ≤ 288230376151711744) :
    Calls Try.prog 37 #[.pointer (some ⟨p, o, none⟩), .slice (some ⟨b, 0, none⟩) 2 c] w fun e w' => e = .returned (.int .i64 (x + y)) ∧ FlW p o h w w' := by
  refine (add_fx p o b 0 2 c (fun i => if i = 0 then x else y) h w f (by omega) hb hbp ⟨fun i hi => ?_⟩).mono ?_
  · match i, hi with
    | 0, _ => exact h0
    | 1, _ => exact h1
  · rintro e w' ⟨rfl, k⟩
    have e1 : sumS (fun i => if i = 0 then x else y) 2 = x + y := by
      simp [sumS, satv_id (a := x) (by omega) (by omega), satv_id (a := y) (by omega) (by omega)]
    have e2 : anyS (fun i => if i = 0 then x else y) 2 = false := by
      simp [anyS, sath_id (a := x) (by omega) (by omega), sath_id (a := y) (by omega) (by omega)]
    rw [e1, e2, rnd_id, sath_id (by omega) (by omega), Bool.or_false, Bool.or_false] at k
    rw [e1, rnd_id, satv_id (by omega) (by omega)]
    exact ⟨rfl, k⟩
/-- Are the numbers all between two? -/
def inB (lo hi : Int) (xs : Nat → Int) : Nat → Bool
  | 0 => true
  | k + 1 => inB lo hi xs k && decide (lo ≤ xs k ∧ xs k ≤ hi)
theorem inB_false {lo hi : Int} {xs : Nat → Int} : ∀ (n k : Nat), k < n → ¬ (lo ≤ xs k ∧ xs k ≤ hi) → inB lo hi xs n = false
  | n + 1, k, hk, h => by
    unfold inB
    by_cases e : k = n
    · subst e; rw [decide_eq_false h, Bool.and_false]
    · rw [inB_false n k (by omega) h, Bool.false_and]
set_option maxHeartbeats 4000000 in
theorem within_any (lo hi : Int) (b ob n c : Nat) (xs : Nat → Int) (w : World) (hn : n ≤ 9223372036854775807) (hx : Ints w b ob n xs) :
    Calls Try.prog 31 #[.int .i64 lo, .int .i64 hi, .slice (some ⟨b, ob, none⟩) n c] w fun e w' => e = .returned (.bool (inB lo hi xs n)) ∧ w' = w := by
  go_enter Try.func31, Try.ntmps31
  go_wp2
  go_loopw [11] (fun i wr => ∃ k : Nat, k ≤ n ∧ i = .int .i64 k ∧ wr = w ∧ inB lo hi xs k = true) (fun i _ => n - (intOf i).toNat)
  case atStart => exact ⟨0, Nat.zero_le _, rfl, rfl, rfl⟩
  case round =>
    obtain ⟨k, hk, rfl, rfl, hin⟩ := hrel
    by_cases hlt : k < n
    · have hltI : (k : Int) < (n : Int) := by omega
      have hxk := hx.at_ k hlt
      by_cases h1 : xs k < lo
      · have hr := inB_false (lo := lo) (hi := hi) (xs := xs) n k hlt (by omega)
        go_wp2_with fail
        go_ret
        first | exact ⟨ret_bool hr.symm, rfl⟩ | exact ⟨rfl, rfl⟩
      · by_cases h2 : hi < xs k
        · have hr := inB_false (lo := lo) (hi := hi) (xs := xs) n k hlt (by omega)
          go_wp2_with fail
          go_ret
          first | exact ⟨ret_bool hr.symm, rfl⟩ | exact ⟨rfl, rfl⟩
        · go_wp2_with fail
          go_roundw
          case rel => exact ⟨k + 1, by omega, by go_num, trivial, by unfold inB; rw [hin, decide_eq_true (by omega)]; rfl⟩
          case measure => simp [intOf]; omega
    · obtain rfl : k = n := by omega
      have hin := Lib.hid hin
      go_wp2_with fail
      go_ret
      exact ⟨ret_bool hin.out.symm, rfl⟩
end Go.Proofs.Ytdndomknjefgkaa.Rg
