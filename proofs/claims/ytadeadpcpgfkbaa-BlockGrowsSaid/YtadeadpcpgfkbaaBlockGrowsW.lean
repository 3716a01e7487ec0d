/- The walk of BlockGrows. -/
import Derived.Test.YtadeadpcpgfkbaaBlkAw
import Derived.Test.YtadeadpcpgfkbaaBlkF
import Derived.Test.YtadeadpcpgfkbaaPlainA
import Derived.Test.YtadeadpcpgfkbaaKP
namespace Go.Proofs.Ytadeadpcpgfkbaa.blockGrows
open Go.RowKit
theorem leav_one : EA.Leav oneG 24 := ⟨fun i t hi ht => by
  unfold oneG
  by_cases h : t = i
  · rw [if_pos (by omega), if_pos ⟨h, by omega⟩]
  · rw [if_neg (by omega), if_neg (fun x => h x.1)]⟩
theorem diag_no {f : Nat → Int} (h : ∀ i : Nat, i < 24 → atH f (i : Int) (i : Int) = false) : ∀ n, n ≤ 24 → diagH f n = false
  | 0, _ => rfl
  | n + 1, hn => by rw [diagH, diag_no h n (by omega), h n (by omega)]; rfl
theorem grows {f : Nat → Int} (hf : EA.Plain f) {M n : Nat} (hM : M + n ≤ 24) {l : Nat → Int} (hl : ∀ t, t < n → 0 ≤ l t ∧ l t ≤ 17592186044416) :
    growH f (M : Int) l n = false ∧ diagH f 24 = false ∧ diagH (growF f (M : Int) l n) 24 = false ∧
    ∀ i : Nat, i < 24 → -36028797018963968 ≤ atV f i i ∧ atV f i i ≤ 36028797018963968 ∧ -4294967296 ≤ atV (growF f (M : Int) l n) i i - atV f i i - (if M ≤ i ∧ i < M + n then l (i - M) else 0) ∧ atV (growF f (M : Int) l n) i i - atV f i i - (if M ≤ i ∧ i < M + n then l (i - M) else 0) ≤ 4294967296 := by
  have hqe : ∀ k, k < 24 → grQ (M : Int) l n k = if M ≤ k ∧ k < M + n then l (k - M) else 0 := fun k hk => by
    rw [grQ_at (by omega) l (by omega) k hk]
    by_cases h : M ≤ k ∧ k < M + n
    · rw [if_pos h, if_pos (by omega), show ((k : Int) - (M : Int)).toNat = k - M by omega]
    · rw [if_neg h, if_neg (by omega)]
  have hq : ∀ k, k < 24 → 0 ≤ grQ (M : Int) l n k ∧ grQ (M : Int) l n k ≤ 17592186044416 := fun k hk => by
    rw [hqe k hk]
    split
    · rename_i h; exact hl _ (by omega)
    · omega
  have hq1 : ∀ k, k < 24 → 0 ≤ grQ (M : Int) l n k ∧ grQ (M : Int) l n k ≤ 35184372088832 := fun k hk => by have := hq k hk; omega
  have hn := fun (i : Nat) (hi : i < 24) => EA.near_leav (d := 24) hf leav_one hq1 (fun k hk _ => (hq k hk).2) (fun h => absurd h (by omega)) hi hi (by omega) (by omega)
  refine ⟨EA.hit_leav hf leav_one hq1 (fun k hk _ => (hq k hk).2) (fun h => absurd h (by omega)), diag_no (fun i hi => (hn i hi).1) 24 (Nat.le_refl _), diag_no (fun i hi => (hn i hi).2.1) 24 (Nat.le_refl _), fun i hi => ?_⟩
  obtain ⟨_, _, h3, h4, h5, h6⟩ := hn i hi
  rw [if_pos rfl, hqe i hi] at h5 h6
  exact ⟨h3, h4, h5, h6⟩
abbrev Good (f : Nat → Int) (m : Int) (pa : Option Addr) (n c : Nat) (w : World) : Prop :=
  Calls Try.prog 7 #[.agg (rowA 300 f), .int .i64 m, .slice pa n c] w fun e w' => e = .returned (.bool true) ∧ Below w.heap.size w w'
theorem below_sl {w w' : World} {pa : Option Addr} {n p N : Nat} {l : Nat → Int} (h : SlP w N pa n l) (hb : Below w.heap.size w w') (hp : w.heap.size ≤ p) : SlP w' p pa n l := fun hn => by
  obtain ⟨b, ob, rfl, _, h2, h3⟩ := h hn
  exact ⟨b, ob, rfl, by omega, by have := hb.size; omega, h3.below hb h2⟩
set_option maxRecDepth 10000 in
set_option maxHeartbeats 8000000 in
theorem walk (f0 : Nat → Int) (_ : ∀ k, -9223372036854775808 ≤ f0 k ∧ f0 k ≤ 9223372036854775807) (m : Int) (_ : -9223372036854775808 ≤ m ∧ m ≤ 9223372036854775807) (pa : Option Addr) (n c : Nat) (l : Nat → Int) (hn : n ≤ 9223372036854775807) (w : World) (hl : SlP w w.heap.size pa n l) : Good f0 m pa n c w := by
  unfold Good
  go_enter Try.func7, Try.ntmps7
  go_wp2_with fail
  generalize hW : World.alloc w _ = W0
  have hb : Below w.heap.size w W0 := by subst hW; exact (Below.refl _ _).alloc (Nat.le_refl _) _
  have hP : Blk W0 w.heap.size (rowA 300 f0) 29 := by subst hW; exact Blk.made _ _ _ rfl
  clear hW
  refine (awake12_any W0).mono ?_
  rintro e w1 ⟨rfl, hb1⟩
  replace hP := hP.call hb1
  replace hb := hb.trans (hb1.mono hb.size)
  clear hb1 W0
  by_cases h0 : m < 0
  · go_wp2_with fail
    go_ret
    exact ⟨rfl, hb⟩
  · by_cases h23 : (23 : Int) < m
    · go_wp2_with fail
      go_ret
      exact ⟨rfl, hb⟩
    · obtain ⟨M, rfl⟩ := Int.eq_ofNat_of_zero_le (show 0 ≤ m by omega)
      have hM : M ≤ 23 := by omega
      have hs : wrap64 (24 - (M : Int)) = 24 - (M : Int) := wrap64_in _ (by omega) (by omega)
      by_cases hgt : 24 - (M : Int) < (n : Int)
      · go_wp2_with fail
        go_ret
        exact ⟨rfl, hb⟩
      · have hMn : M + n ≤ 24 := by omega
        go_upto_region 5 with (fail)
        clear hs hgt h0 h23
        go_wp2_with ((with_reducible refine row_load 29 (.tmp 3) ?_ ?_ w.heap.size 300 f0 29 ?_ hP _ Try.underlying29 ?_ covSize ?_); rfl; rfl; rfl; rfl)
        refine (plain_any f0 w1).mono ?_
        rintro e w2 ⟨rfl, hb2⟩
        replace hP := hP.call hb2
        replace hb := hb.trans (hb2.mono hb.size)
        clear hb2 w1
        have HF := Lib.hid (plain_ok f0)
        generalize plainF f0 = f at *
        go_upto_region 6 with ((with_reducible refine row_store 29 (.tmp 3) (.tmp 30) ?_ ?_ w.heap.size 300 f f0 29 ?_ ?_ hP covSize ?_); rfl; rfl; rfl; rfl)
        replace hP := hP.setRow (d := rowA 300 f)
        replace hb := below_setRow hb (Nat.le_refl _) (rowA 300 f)
        generalize World.setRow _ _ _ = w3 at *
        go_upto_region 7 with (fail)
        have L0 : Lw w w3.heap.size false [(w.heap.size, 300, f, 29)] (w3.alloc (.cells #[.bool false] 25)) :=
          ⟨Fl.made w3 25 false, hb.alloc hb.size _, hb.size, fun x hx => by
            obtain rfl := List.mem_singleton.1 hx
            exact ⟨Nat.le_refl _, by have := hP.lt; dsimp only; omega, hP.alloc _⟩⟩
        clear hP hb
        generalize World.alloc w3 _ = W2 at *
        generalize w3.heap.size = q at *
        have HL := Lib.hid L0
        clear L0
        go_wp2_with fail
        go_loopw [8] (fun i' wr => ∃ k : Nat, k ≤ n ∧ i' = .int .i64 k ∧ (∀ t, t < k → 0 ≤ l t ∧ l t ≤ 17592186044416) ∧ Lw w q false [(w.heap.size, 300, f, 29)] wr) (fun i' _ => n - (intOf i').toNat)
        case atStart => exact ⟨0, by omega, rfl, fun t ht => absurd ht (by omega), HL.out⟩
        case round =>
          clear HL
          obtain ⟨k, hk, rfl, hlk, L⟩ := hrel
          by_cases hlt : k < n
          · have hltI : (k : Int) < (n : Int) := by omega
            have hk0 : (0 : Int) ≤ (k : Int) := by omega
            obtain ⟨b, ob, rfl, _, hbw, hI⟩ := hl (by omega)
            have c1 := (cellAt (i := ob + k) L.be hbw).trans (hI.at_ k hlt)
            clear hI hl
            have HK := Lib.hid hlk
            clear hlk
            generalize hv : l k = v at *
            have HV := Lib.hid hv
            clear hv
            by_cases v0 : v < 0
            · have hbe := L.be
              clear L
              go_wp2_with fail
              go_ret
              exact ⟨rfl, hbe⟩
            · by_cases v1 : 17592186044416 < v
              · have hbe := L.be
                clear L
                go_wp2_with fail
                go_ret
                exact ⟨rfl, hbe⟩
              · have HS := Lib.hid (And.intro (fun t (ht : t < k + 1) => show 0 ≤ l t ∧ l t ≤ 17592186044416 by
                  by_cases e : t = k
                  · subst e; rw [HV.out]; omega
                  · exact HK.out t (by omega)) L)
                clear L HK HV
                go_wp2_with fail
                go_roundw
                case rel => exact ⟨k + 1, by omega, by go_num, HS.out.1, HS.out.2⟩
                case measure => simp [intOf]; omega
          · obtain rfl : k = n := by omega
            clear hlt hk
            have hl2 : ¬ (k : Int) < (k : Int) := by omega
            obtain ⟨g1, g2, g3, g4⟩ := grows HF.out hMn hlk
            have HG := Lib.hid g4
            have HV := Lib.hid hlk
            clear g4 HF hlk
            have hP : Blk wr w.heap.size (rowA 300 f) 29 := L.get (.head _)
            go_wp2_with ((with_reducible refine row_load 29 (.tmp 3) ?_ ?_ w.heap.size 300 f 29 ?_ hP _ Try.underlying29 ?_ covSize ?_); rfl; rfl; rfl; rfl)
            refine (grow_any q 0 f (M : Int) pa k c l _ _ L.fl hn (below_sl hl L.be L.lo)).mono ?_
            rintro e w4 ⟨rfl, k4⟩
            have L4 := (L.flag k4).hit (by rw [g1]; rfl : (false || growH f (M : Int) l k) = false)
            clear L k4 hP g1
            go_upto_region 13 with ((with_reducible refine row_store 29 (.tmp 9) (.tmp 55) ?_ ?_ w4.heap.size 300 (growF f (M : Int) l k) (fun _ => 0) 29 ?_ ?_ ?_ covSize ?_); rfl; rfl; rfl; rfl; (rw [zeroCov]; exact Blk.made _ _ _ rfl))
            rw [zeroCov]
            have L5 := (L4.made 300 (fun _ => 0) 29).lay L4.newer (growF f (M : Int) l k)
            clear L4
            generalize growF f (M : Int) l k = a at *
            generalize World.setRow _ _ _ = w5 at *
            generalize w4.heap.size = A at *
            have hP : Blk w5 w.heap.size (rowA 300 f) 29 := L5.get (.tail _ (.head _))
            go_wp2_with ((with_reducible refine row_load 29 (.tmp 3) ?_ ?_ w.heap.size 300 f 29 ?_ hP _ Try.underlying29 ?_ covSize ?_); rfl; rfl; rfl; rfl)
            refine (diag_any q 0 f _ _ L5.fl).mono ?_
            rintro e w6 ⟨rfl, k6⟩
            have L6 := (L5.flag k6).hit (by rw [g2]; rfl : (false || diagH f 24) = false)
            clear L5 k6 hP g2
            have hZ : ∀ z : Array Value, z = rowA 24 (fun _ => 0) → Blk (w6.alloc (.cells z 27)) w6.heap.size (rowA 24 fun _ => 0) 27 := by rintro z rfl; exact (L6.made 24 (fun _ => 0) 27).get (.head _)
            have L7 := (L6.made 24 (fun _ => 0) 27).lay L6.newer (diagF f 24)
            clear L6
            go_upto_region 14 with ((with_reducible refine row_store 27 (.tmp 10) (.tmp 58) ?_ ?_ w6.heap.size 24 (diagF f 24) (fun _ => 0) 27 ?_ ?_ (hZ _ zero24) rowDSize ?_); rfl; rfl; rfl; rfl)
            rw [zero24]
            clear hZ
            generalize World.setRow _ _ _ = w7 at *
            generalize w6.heap.size = X at *
            have hA : Blk w7 A (rowA 300 a) 29 := L7.get (.tail _ (.head _))
            go_wp2_with ((with_reducible refine row_load 29 (.tmp 9) ?_ ?_ A 300 a 29 ?_ hA _ Try.underlying29 ?_ covSize ?_); rfl; rfl; rfl; rfl)
            refine (diag_any q 0 a _ _ L7.fl).mono ?_
            rintro e w8 ⟨rfl, k8⟩
            have L8 := (L7.flag k8).hit (by rw [g3]; rfl : (false || diagH a 24) = false)
            clear L7 k8 hA g3
            have hZ : ∀ z : Array Value, z = rowA 24 (fun _ => 0) → Blk (w8.alloc (.cells z 27)) w8.heap.size (rowA 24 fun _ => 0) 27 := by rintro z rfl; exact (L8.made 24 (fun _ => 0) 27).get (.head _)
            have L9 := (L8.made 24 (fun _ => 0) 27).lay L8.newer (diagF a 24)
            clear L8
            go_upto_region 15 with ((with_reducible refine row_store 27 (.tmp 11) (.tmp 61) ?_ ?_ w8.heap.size 24 (diagF a 24) (fun _ => 0) 27 ?_ ?_ (hZ _ zero24) rowDSize ?_); rfl; rfl; rfl; rfl)
            rw [zero24]
            clear hZ
            generalize World.setRow _ _ _ = w9 at *
            generalize w8.heap.size = Y at *
            have HL := Lib.hid L9
            clear L9
            go_wp2_with fail
            go_loopw [12] (fun i' wr => ∃ i : Nat, i ≤ 24 ∧ i' = .int .i64 i ∧ Lw w q false [(Y, 24, diagF a 24, 27), (X, 24, diagF f 24, 27), (A, 300, a, 29), (w.heap.size, 300, f, 29)] wr) (fun i' _ => 24 - (intOf i').toNat)
            case atStart => exact ⟨0, by omega, rfl, HL.out⟩
            case round =>
              clear HL
              obtain ⟨i, hi, rfl, L⟩ := hrel
              by_cases hli : i < 24
              · have hliI : (i : Int) < 24 := by omega
                have hi0 : (0 : Int) ≤ (i : Int) := by omega
                have c1 := row_at (L.drew.get (.tail _ (.head _))) (k := i) hli (show diagF f 24 i = atV f (i : Int) (i : Int) from if_pos hli)
                have c2 := row_at (L.drew.get (.head _)) (k := i) hli (show diagF a 24 i = atV a (i : Int) (i : Int) from if_pos hli)
                obtain ⟨b1, b2, b3, b4⟩ := HG.out i hli
                have hsl : ∀ b ob, pa = some ⟨b, ob, none⟩ → True := fun _ _ _ => trivial
                clear hsl
                generalize atV f (i : Int) (i : Int) = x at *
                generalize atV a (i : Int) (i : Int) = y at *
                have hq : -9223372036854775808 ≤ (if M ≤ i ∧ i < M + k then l (i - M) else 0) ∧ (if M ≤ i ∧ i < M + k then l (i - M) else 0) ≤ 9223372036854775807 := by
                  split
                  · rename_i h; have := HV.out (i - M) (by omega); omega
                  · omega
                have hq2 : 0 ≤ (if M ≤ i ∧ i < M + k then l (i - M) else 0) ∧ (if M ≤ i ∧ i < M + k then l (i - M) else 0) ≤ 17592186044416 := by
                  split
                  · rename_i h; have := HV.out (i - M) (by omega); omega
                  · omega
                have e0 : IntKind.i64.wrap (y - x) = y - x := i64_id _ (by omega) (by omega)
                clear hq
                have HS := Lib.hid L.drew
                have hbe := L.be
                clear L
                go_upto_region 18 with (fail)
                go_region_held3 (fun w' => w'.cell? ⟨X, i, none⟩ = some (.int .i64 x) ∧ w'.cell? ⟨Y, i, none⟩ = some (.int .i64 y))
                  ((exact ⟨c1, c2⟩))
                  (first | (go_at_call 41; skip))
                clear c1 c2 e0
                generalize hd : y - x = dd at *
                by_cases hMi : M ≤ i
                · have hMiI : (M : Int) ≤ (i : Int) := by omega
                  have hw : wrap64 ((i : Int) - (M : Int)) = (i : Int) - (M : Int) := wrap64_in _ (by omega) (by omega)
                  obtain ⟨t, ht⟩ : ∃ t : Nat, (i : Int) - (M : Int) = (t : Int) := ⟨i - M, by omega⟩
                  by_cases htk : t < k
                  · rw [if_pos (by omega), show i - M = t by omega] at b3 b4 hq2
                    have htkI : (t : Int) < (k : Int) := by omega
                    have ht0 : (0 : Int) ≤ (t : Int) := by omega
                    obtain ⟨b, ob, rfl, _, hbw, hI⟩ := hl (by omega)
                    have c3 := (cellAt (i := ob + t) HS.out.be hbw).trans (hI.at_ t htk)
                    generalize l t = v at *
                    have e1 : wrap64 (dd - v) = dd - v := wrap64_in _ (by omega) (by omega)
                    have g1 : ¬ (4294967296 : Int) < dd - v := by omega
                    have g2 : ¬ dd - v < (-4294967296 : Int) := by omega
                    clear hI hl hd b1 b2 b3 b4 hq2 HG HV
                    rw [ht] at hw
                    go_wp2_with fail
                    go_roundw
                    case rel => exact ⟨i + 1, by omega, by go_num, HS.out⟩
                    case measure => simp [intOf]; omega
                  · rw [if_neg (by omega)] at b3 b4
                    have htkI : ¬ (t : Int) < (k : Int) := by omega
                    have g1 : ¬ (4294967296 : Int) < dd := by omega
                    have g2 : ¬ dd < (-4294967296 : Int) := by omega
                    clear hl hd b1 b2 b3 b4 hq2 HG HV
                    rw [ht] at hw
                    go_wp2_with fail
                    go_roundw
                    case rel => exact ⟨i + 1, by omega, by go_num, HS.out⟩
                    case measure => simp [intOf]; omega
                · have hMiI : ¬ (M : Int) ≤ (i : Int) := by omega
                  rw [if_neg (by omega)] at b3 b4
                  have g1 : ¬ (4294967296 : Int) < dd := by omega
                  have g2 : ¬ dd < (-4294967296 : Int) := by omega
                  clear hl hd b1 b2 b3 b4 hq2 HG HV
                  go_wp2_with fail
                  go_roundw
                  case rel => exact ⟨i + 1, by omega, by go_num, HS.out⟩
                  case measure => simp [intOf]; omega
              · obtain rfl : i = 24 := by omega
                clear hli hi HG hl HV
                have hl24 : ¬ ((24 : Nat) : Int) < 24 := by omega
                have hc := L.fl.cell
                have hbe := L.be
                clear L
                go_wp2_with fail
                go_ret
                exact ⟨rfl, hbe⟩
end Go.Proofs.Ytadeadpcpgfkbaa.blockGrows
