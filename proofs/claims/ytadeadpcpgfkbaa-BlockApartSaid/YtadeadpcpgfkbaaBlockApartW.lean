/- The walk of BlockApart. -/
import Derived.Test.YtadeadpcpgfkbaaBlkAw
import Derived.Test.YtadeadpcpgfkbaaSxTg
import Derived.Test.YtadeadpcpgfkbaaBlkD
import Derived.Test.YtadeadpcpgfkbaaBlkP
import Derived.Test.YtadeadpcpgfkbaaKP
namespace Go.Proofs.Ytadeadpcpgfkbaa.blockApart
open Go.RowKit
theorem reset_good (f : Nat → Int) (m : Int) (l : Nat → Int) (n : Nat) : goodB (resetF f m l n) = true := goodB_of (fun k _ => stepF_bd _ _ _ k) (fun k hk => stO_D _ _ 24 k (by omega) (by omega) hk)
abbrev Good (f : Nat → Int) (m : Int) (pa : Option Addr) (n c : Nat) (w : World) : Prop :=
  Calls Try.prog 5 #[.agg (rowA 300 f), .int .i64 m, .slice pa n c] w fun e w' => e = .returned (.bool true) ∧ Below w.heap.size w w'
theorem below_sl {w w' : World} {pa : Option Addr} {n p N : Nat} {l : Nat → Int} (h : SlP w N pa n l) (hb : Below w.heap.size w w') (hp : w.heap.size ≤ p) : SlP w' p pa n l := fun hn => by
  obtain ⟨b, ob, rfl, _, h2, h3⟩ := h hn
  exact ⟨b, ob, rfl, by omega, by have := hb.size; omega, h3.below hb h2⟩
set_option maxRecDepth 10000 in
set_option maxHeartbeats 8000000 in
theorem walk (f : Nat → Int) (_ : ∀ k, -9223372036854775808 ≤ f k ∧ f k ≤ 9223372036854775807) (m : Int) (_ : -9223372036854775808 ≤ m ∧ m ≤ 9223372036854775807) (pa : Option Addr) (n c : Nat) (l : Nat → Int) (hn : n ≤ 9223372036854775807) (w : World) (hl : SlP w w.heap.size pa n l) : Good f m pa n c w := by
  unfold Good
  go_enter Try.func5, Try.ntmps5
  go_wp2_with fail
  generalize hW : World.alloc w _ = W0
  have hb : Below w.heap.size w W0 := by subst hW; exact (Below.refl _ _).alloc (Nat.le_refl _) _
  have hP : Blk W0 w.heap.size (rowA 300 f) 29 := by subst hW; exact Blk.made _ _ _ rfl
  clear hW
  refine (awake12_any W0).mono ?_
  rintro e w1 ⟨rfl, hb1⟩
  replace hP := hP.call hb1
  replace hb := hb.trans (hb1.mono hb.size)
  clear hb1 W0
  go_wp2_with ((with_reducible refine row_load 29 (.tmp 3) ?_ ?_ w.heap.size 300 f 29 ?_ hP _ Try.underlying29 ?_ covSize ?_); rfl; rfl; rfl; rfl)
  refine (good_any f w1).mono ?_
  rintro e w2 ⟨rfl, hb2⟩
  replace hP := hP.call hb2
  replace hb := hb.trans (hb2.mono hb.size)
  clear hb2 w1
  cases hg : goodB f
  · go_wp2_with fail
    go_ret
    exact ⟨rfl, hb⟩
  · by_cases h0 : m < 0
    · go_wp2_with fail
      go_ret
      exact ⟨rfl, hb⟩
    · by_cases h23 : (23 : Int) < m
      · go_wp2_with fail
        go_ret
        exact ⟨rfl, hb⟩
      · obtain ⟨M, rfl⟩ := Int.eq_ofNat_of_zero_le (show 0 ≤ m by omega)
        have hM : M ≤ 23 := by omega
        have hs : wrap64 (24 - (M : Int)) = 24 - (M : Int) := wrap64_in _ (by omega) (by omega)
        by_cases hgt : 24 - (M : Int) < (n : Int)
        · go_wp2_with fail
          go_ret
          exact ⟨rfl, hb⟩
        · have hMn : M + n ≤ 24 := by omega
          go_upto_region 5 with (fail)
          clear hs hgt h0 h23 hg
          go_upto_region 6 with (fail)
          have L0 : Lw w w2.heap.size false [(w.heap.size, 300, f, 29)] (w2.alloc (.cells #[.bool false] 25)) :=
            ⟨Fl.made w2 25 false, hb.alloc hb.size _, hb.size, fun x hx => by
              obtain rfl := List.mem_singleton.1 hx
              exact ⟨Nat.le_refl _, by have := hP.lt; dsimp only; omega, hP.alloc _⟩⟩
          clear hP hb
          generalize World.alloc w2 _ = W2 at *
          generalize w2.heap.size = q at *
          have hP : Blk W2 w.heap.size (rowA 300 f) 29 := L0.get (.head _)
          go_wp2_with ((with_reducible refine row_load 29 (.tmp 3) ?_ ?_ w.heap.size 300 f 29 ?_ hP _ Try.underlying29 ?_ covSize ?_); rfl; rfl; rfl; rfl)
          refine (reset_any q 0 f (M : Int) pa n c l _ _ L0.fl hn (below_sl hl L0.be L0.lo)).mono ?_
          rintro e w3 ⟨rfl, k3⟩
          have L3 := L0.flag k3
          clear L0 k3 hP
          go_upto_region 7 with ((with_reducible refine row_store 29 (.tmp 8) (.tmp 38) ?_ ?_ w3.heap.size 300 (resetF f (M : Int) l n) (fun _ => 0) 29 ?_ ?_ ?_ covSize ?_); rfl; rfl; rfl; rfl; (rw [zeroCov]; exact Blk.made _ _ _ rfl))
          rw [zeroCov]
          have L4 := (L3.made 300 (fun _ => 0) 29).lay L3.newer (resetF f (M : Int) l n)
          clear L3
          have HG := Lib.hid (reset_good f (M : Int) l n)
          have HA := Lib.hid (fun t (ht : t < n) => reset_apart f (m := (M : Int)) ⟨by omega, by omega⟩ l (n := n) (t := t) (by omega) ht)
          generalize (false || resetH f (M : Int) l n) = g at *
          generalize resetF f (M : Int) l n = a at *
          generalize World.setRow _ _ _ = w4 at *
          generalize w3.heap.size = A at *
          have hA : Blk w4 A (rowA 300 a) 29 := L4.get (.head _)
          go_wp2_with ((with_reducible refine row_load 29 (.tmp 8) ?_ ?_ A 300 a 29 ?_ hA _ Try.underlying29 ?_ covSize ?_); rfl; rfl; rfl; rfl)
          refine (good_any a w4).mono ?_
          rw [HG.out]
          rintro e w5 ⟨rfl, hb5⟩
          have L5 := L4.call hb5
          clear L4 hb5 hA HG
          go_wp2_with fail
          have HL := Lib.hid L5
          clear L5
          go_loopw [9] (fun i' wr => ∃ k : Nat, k ≤ n ∧ i' = .int .i64 k ∧ Lw w q g [(A, 300, a, 29), (w.heap.size, 300, f, 29)] wr) (fun i' _ => n - (intOf i').toNat)
          case atStart => exact ⟨0, by omega, rfl, HL.out⟩
          case round =>
            clear HL
            obtain ⟨k, hk, rfl, L⟩ := hrel
            by_cases hlt : k < n
            · have hltI : (k : Int) < (n : Int) := by omega
              have hk0 : (0 : Int) ≤ (k : Int) := by omega
              obtain ⟨b, ob, rfl, _, hbw, hI⟩ := hl (by omega)
              have c1 := (cellAt (i := ob + k) L.be hbw).trans (hI.at_ k hlt)
              obtain ⟨K, hK⟩ : ∃ K, M + k = K := ⟨_, rfl⟩
              have hK24 : K < 24 := by omega
              have hKI : (M : Int) + (k : Int) = (K : Int) := by omega
              have hw : wrap64 ((M : Int) + (k : Int)) = (K : Int) := by rw [hKI]; exact wrap64_in _ (by omega) (by omega)
              have hK0 : (0 : Int) ≤ (K : Int) := by omega
              have hK24I : (K : Int) < 24 := by omega
              obtain ⟨a1, a2⟩ := HA.out k hlt
              rw [Int.toNat_natCast, hK] at a1
              rw [hKI] at a2
              have HU := Lib.hid a2
              have c2 := row_at (L.get (.head _)) (k := 276 + K) (by omega) a1
              clear a1 a2 hI hl HA hK
              have HL := Lib.hid L
              clear L
              generalize l k = v at *
              have hcl : (v < 1 ∧ clampv v 1 72057594037927936 = 1) ∨ (¬ v < 1 ∧ 72057594037927936 < v ∧ clampv v 1 72057594037927936 = 72057594037927936) ∨ (¬ v < 1 ∧ ¬ 72057594037927936 < v ∧ clampv v 1 72057594037927936 = v) := by
                unfold clampv
                by_cases h1 : v < 1
                · left; rw [if_neg (by omega), if_pos h1]; exact ⟨h1, rfl⟩
                · by_cases h2 : 72057594037927936 < v
                  · right; left; rw [if_neg (by omega), if_neg h1, if_pos h2]; exact ⟨h1, h2, rfl⟩
                  · right; right; rw [if_neg (by omega), if_neg h1, if_neg h2]; exact ⟨h1, h2, rfl⟩
              rcases hcl with ⟨v1, ec⟩ | ⟨v1, v2, ec⟩ | ⟨v1, v2, ec⟩
              all_goals
                rw [ec] at c2
                go_wp2_with fail
                clear c1 c2 ec
                go_loopw [11] (fun i' wq => ∃ j : Nat, j ≤ 24 ∧ i' = .int .i64 j ∧ Lw w q g [(A, 300, a, 29), (w.heap.size, 300, f, 29)] wq) (fun i' _ => 24 - (intOf i').toNat)
                case atStart => exact ⟨0, by omega, rfl, HL.out⟩
                case round =>
                  clear HL
                  obtain ⟨j, hj, rfl, L⟩ := hrel
                  by_cases hlj : j < 24
                  · have hljI : (j : Int) < 24 := by omega
                    have hj0 : (0 : Int) ≤ (j : Int) := by omega
                    obtain ⟨T, NC, hO⟩ := opCov
                    have hTa := hO.agg
                    have hTs := hO.size
                    have l1 := hO.load _ A a 29 (L.get (.head _))
                    have HT := Lib.hid hO
                    rw [hO.is]
                    clear hO
                    by_cases hjk : j = K
                    · subst hjk
                      have hu : uF a (j : Int) (j : Int) = 1073741824 := uF_one (by omega) (by omega) rfl
                      go_wp2_with fail
                      refine (triU_any a (j : Int) (j : Int) _).mono ?_
                      rw [hu]
                      rintro e w7 ⟨rfl, b7⟩
                      have L7 := L.call b7
                      have l2 := HT.out.load _ A a 29 (L7.get (.head _))
                      clear L b7 l1
                      go_wp2_with fail
                      refine (triU_any a (j : Int) (j : Int) _).mono ?_
                      rw [hu]
                      rintro e w8 ⟨rfl, b8⟩
                      have HS := Lib.hid (L7.call b8)
                      clear L7 b8 l2 hu
                      go_wp2_with fail
                      go_roundw
                      case rel => exact ⟨j + 1, by omega, by go_num, by rw [← HT.out.is]; exact HS.out⟩
                      case measure => simp [intOf]; omega
                    · obtain ⟨u1, u2⟩ := HU.out j hlj (by omega)
                      have hjI : ¬ (j : Int) = (K : Int) := by omega
                      go_wp2_with fail
                      refine (triU_any a (K : Int) (j : Int) _).mono ?_
                      rw [u1]
                      rintro e w7 ⟨rfl, b7⟩
                      have L7 := L.call b7
                      have l2 := HT.out.load _ A a 29 (L7.get (.head _))
                      clear L b7 l1
                      go_wp2_with fail
                      refine (triU_any a (j : Int) (K : Int) _).mono ?_
                      rw [u2]
                      rintro e w8 ⟨rfl, b8⟩
                      have HS := Lib.hid (L7.call b8)
                      clear L7 b8 l2 u1 u2
                      go_wp2_with fail
                      go_roundw
                      case rel => exact ⟨j + 1, by omega, by go_num, by rw [← HT.out.is]; exact HS.out⟩
                      case measure => simp [intOf]; omega
                  · obtain rfl : j = 24 := by omega
                    clear hlj hj
                    have hl24 : ¬ ((24 : Nat) : Int) < 24 := by omega
                    have HS := Lib.hid L
                    clear L
                    go_wp2_with fail
                    go_roundw
                    case rel => exact ⟨k + 1, by omega, by go_num, HS.out⟩
                    case measure => simp [intOf]; omega
            · obtain rfl : k = n := by omega
              clear hlt hk hl HA
              have hl2 : ¬ (k : Int) < (k : Int) := by omega
              go_wp2_with fail
              go_ret
              exact ⟨rfl, L.be⟩
end Go.Proofs.Ytadeadpcpgfkbaa.blockApart
