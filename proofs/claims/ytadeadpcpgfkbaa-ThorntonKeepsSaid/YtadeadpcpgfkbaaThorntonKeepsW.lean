/- The walk of ThorntonKeeps. -/
import Derived.Test.YtadeadpcpgfkbaaThoAk
import Derived.Test.YtadeadpcpgfkbaaPlainA
import Derived.Test.YtadeadpcpgfkbaaLwA
namespace Go.Proofs.Ytadeadpcpgfkbaa.thorntonKeeps
open Go.RowKit
theorem leav_one : EA.Leav oneG 24 := ⟨fun i t hi ht => by
  unfold oneG
  by_cases h : t = i
  · rw [if_pos (by omega), if_pos ⟨h, by omega⟩]
  · rw [if_neg (by omega), if_neg (fun x => h x.1)]⟩
theorem diag_no {f : Nat → Int} (h : ∀ i : Nat, i < 24 → atH f (i : Int) (i : Int) = false) : ∀ n, n ≤ 24 → diagH f n = false
  | 0, _ => rfl
  | n + 1, hn => by rw [diagH, diag_no h n (by omega), h n (by omega)]; rfl
theorem keeps {f : Nat → Int} (hf : EA.Plain f) {K : Nat} {n : Int} (hn : 0 ≤ n ∧ n ≤ 17592186044416) :
    stepH f oneG (upd (fun _ => 0) K n) = false ∧ diagH f 24 = false ∧ diagH (stepF f oneG (upd (fun _ => 0) K n)) 24 = false ∧
    ∀ i : Nat, i < 24 → -36028797018963968 ≤ atV f i i ∧ atV f i i ≤ 36028797018963968 ∧ -4294967296 ≤ atV (stepF f oneG (upd (fun _ => 0) K n)) i i - atV f i i - (if i = K then n else 0) ∧ atV (stepF f oneG (upd (fun _ => 0) K n)) i i - atV f i i - (if i = K then n else 0) ≤ 4294967296 := by
  have hq : ∀ k, k < 24 → 0 ≤ upd (fun _ => (0 : Int)) K n k ∧ upd (fun _ => (0 : Int)) K n k ≤ 17592186044416 := fun k _ => by
    unfold upd; dsimp only; split <;> omega
  have hq1 : ∀ k, k < 24 → 0 ≤ upd (fun _ => (0 : Int)) K n k ∧ upd (fun _ => (0 : Int)) K n k ≤ 35184372088832 := fun k hk => by have := hq k hk; omega
  have hm := fun (i : Nat) (hi : i < 24) => EA.near_leav (d := 24) hf leav_one hq1 (fun k hk _ => (hq k hk).2) (fun h => absurd h (by omega)) hi hi (by omega) (by omega)
  refine ⟨EA.hit_leav hf leav_one hq1 (fun k hk _ => (hq k hk).2) (fun h => absurd h (by omega)), diag_no (fun i hi => (hm i hi).1) 24 (Nat.le_refl _), diag_no (fun i hi => (hm i hi).2.1) 24 (Nat.le_refl _), fun i hi => ?_⟩
  obtain ⟨_, _, h3, h4, h5, h6⟩ := hm i hi
  rw [if_pos rfl] at h5 h6
  exact ⟨h3, h4, h5, h6⟩
def actK (ws q Q : Nat) (f0 : Nat → Int) (K : Nat) (n : Int) (u34 u35 u36 u37 u38 u39 u40 u41 u42 u43 u46 u47 u48 u49 u50 u51 u52 u53 u54 u55 u56 : Value) (a11 a63 a64 a65 a66 a67 : Value) : Act := ⟨⟨.agg (rowA 300 f0) :: .int .i64 (K : Int) :: .int .i64 n :: .pointer (some ⟨ws, 0, none⟩) :: undef :: undef :: .bool false :: .int .i64 276 :: .int .i64 24 :: .pointer (some ⟨q, 0, none⟩) :: .pointer (some ⟨Q, 0, none⟩) :: a11 :: undef :: undef :: undef :: undef :: .bool true :: .bool false :: .int .i64 (K : Int) :: .bool (decide ((K : Int) < 0)) :: .bool (decide ((K : Int) < 0)) :: .int .i64 (K : Int) :: .bool (decide (23 < (K : Int))) :: .bool (decide ((K : Int) < 0) || decide (23 < (K : Int))) :: .bool (decide ((K : Int) < 0) || decide (23 < (K : Int))) :: .int .i64 n :: .bool (decide (n < 0)) :: .bool (decide ((K : Int) < 0) || decide (23 < (K : Int)) || decide (n < 0)) :: .bool (decide ((K : Int) < 0) || decide (23 < (K : Int)) || decide (n < 0)) :: .int .i64 n :: .bool (decide (17592186044416 < n)) :: .bool (decide ((K : Int) < 0) || decide (23 < (K : Int)) || decide (n < 0) || decide (17592186044416 < n)) :: .int .i64 276 :: .bool false :: u34 :: u35 :: u36 :: u37 :: u38 :: u39 :: u40 :: u41 :: u42 :: u43 :: .int .i64 24 :: .bool false :: u46 :: u47 :: u48 :: u49 :: u50 :: u51 :: u52 :: u53 :: u54 :: u55 :: u56 :: .agg #[.bool false] :: .pointer (some ⟨q, 0, none⟩) :: .agg (rowA 24 fun _ => 0) :: .int .i64 (K : Int) :: .int .i64 n :: .pointer (some ⟨Q, K, none⟩) :: a63 :: a64 :: a65 :: a66 :: a67 :: undef :: undef :: undef :: undef :: undef :: undef :: undef :: undef :: undef :: undef :: undef :: undef :: undef :: undef :: undef :: undef :: undef :: undef :: undef :: undef :: undef :: undef :: undef :: undef :: undef :: undef :: undef :: undef :: undef :: undef :: undef :: undef :: undef :: undef :: []⟩, []⟩
abbrev Good (f : Nat → Int) (k n : Int) (w : World) : Prop :=
  Calls Try.prog 10 #[.agg (rowA 300 f), .int .i64 k, .int .i64 n] w fun e w' => e = .returned (.bool true) ∧ Below w.heap.size w w'
set_option maxRecDepth 100000 in
set_option maxHeartbeats 8000000 in
theorem walk (f0 : Nat → Int) (_ : ∀ k, -9223372036854775808 ≤ f0 k ∧ f0 k ≤ 9223372036854775807) (k : Int) (_ : -9223372036854775808 ≤ k ∧ k ≤ 9223372036854775807) (n : Int) (_ : -9223372036854775808 ≤ n ∧ n ≤ 9223372036854775807) (w : World) : Good f0 k n w := by
  unfold Good
  go_enter Try.func10, Try.ntmps10
  go_wp2_with fail
  generalize hW : World.alloc w _ = WA
  have hb : Below w.heap.size w WA := by subst hW; exact (Below.refl _ _).alloc (Nat.le_refl _) _
  have hP : Blk WA w.heap.size (rowA 300 f0) 29 := by subst hW; exact Blk.made _ _ _ rfl
  clear hW
  refine (awake10_any WA).mono ?_
  rintro e w1 ⟨rfl, hb1⟩
  replace hP := hP.call hb1
  replace hb := hb.trans (hb1.mono hb.size)
  clear hb1 WA
  by_cases h0 : k < 0
  · go_wp2_with fail
    go_ret
    exact ⟨rfl, hb⟩
  by_cases h1 : (23 : Int) < k
  · go_wp2_with fail
    go_ret
    exact ⟨rfl, hb⟩
  by_cases h2 : n < 0
  · go_wp2_with fail
    go_ret
    exact ⟨rfl, hb⟩
  by_cases h3 : (17592186044416 : Int) < n
  · go_wp2_with fail
    go_ret
    exact ⟨rfl, hb⟩
  obtain ⟨K, rfl⟩ := Int.eq_ofNat_of_zero_le (show 0 ≤ k by omega)
  have hK : K < 24 := by omega
  have hn : 0 ≤ n ∧ n ≤ 17592186044416 := by omega
  go_upto_region 5 with (fail)
  clear h0 h1 h2 h3
  have hP : Blk w1 w.heap.size (rowA 300 (plaU f0 0)) 29 := by rw [plaU_zero]; exact hP
  go_wp2_with fail
  go_loopw [7] (fun i' wr => ∃ k : Nat, k ≤ 276 ∧ i' = .int .i64 k ∧ Below w.heap.size w wr ∧ Blk wr w.heap.size (rowA 300 (plaU f0 k)) 29) (fun i' _ => 276 - (intOf i').toNat)
  case atStart => exact ⟨0, by omega, rfl, hb, hP⟩
  case round =>
    clear hb hP
    obtain ⟨k, hk, rfl, hb, hP⟩ := hrel
    by_cases hlt : k < 276
    · have hltI : (k : Int) < 276 := by omega
      have hk0 : (0 : Int) ≤ (k : Int) := by omega
      have hc := hP.cell k
      rw [rowA_get _ (by omega), plaU_self] at hc
      have hf := hP.free k
      have hP2 := hP.setI (k := k) (by omega) (plainF f0 k)
      rw [plaU_next, plainF_u hlt] at hP2
      have hb2 := hb.setCell (p := ⟨w.heap.size, k, none⟩) (Nat.le_refl _) (.int .i64 ((f0 k).tmod 268435456))
      have H := Lib.hid (And.intro hb2 hP2)
      clear hb2 hP2 hb hP
      go_wp2_with fail
      go_roundw
      case rel => exact ⟨k + 1, by omega, by go_num, H.out.1, H.out.2⟩
      case measure => simp [intOf]; omega
    · obtain rfl : k = 276 := by omega
      clear hlt hk
      have hcc : ¬ ((276 : Nat) : Int) < 276 := by omega
      go_wp2_with fail
      clear hcc
      go_loopw [8] (fun i' wr => ∃ k : Nat, k ≤ 24 ∧ i' = .int .i64 k ∧ Below w.heap.size w wr ∧ Blk wr w.heap.size (rowA 300 (plaU f0 (276 + k))) 29) (fun i' _ => 24 - (intOf i').toNat)
      case atStart => exact ⟨0, by omega, rfl, hb, hP⟩
      case round =>
        clear hb hP
        obtain ⟨k, hk, rfl, hb, hP⟩ := hrel
        by_cases hlt : k < 24
        · have hltI : (k : Int) < 24 := by omega
          have hk0 : (0 : Int) ≤ (k : Int) := by omega
          have hc := hP.cell (276 + k)
          rw [rowA_get _ (by omega), plaU_self] at hc
          have hf := hP.free (276 + k)
          have hP2 := hP.setI (k := 276 + k) (by omega) (plainF f0 (276 + k))
          rw [plaU_next, plainF_d] at hP2
          have hb2 := hb.setCell (p := ⟨w.heap.size, 276 + k, none⟩) (Nat.le_refl _) (.int .i64 (wrap64 (17179869184 + bits .and .i64 (f0 (276 + k)) 8796093022207)))
          have H := Lib.hid (And.intro hb2 hP2)
          clear hb2 hP2 hb hP
          go_wp2_with fail
          go_roundw
          case rel => exact ⟨k + 1, by omega, by go_num, H.out.1, H.out.2⟩
          case measure => simp [intOf]; omega
        · obtain rfl : k = 24 := by omega
          clear hlt hk
          have hcc : ¬ ((24 : Nat) : Int) < 24 := by omega
          have hP := hP.congr (g := plainF f0) (fun j hj => plaU_all hj)
          have HF := plain_ok f0
          generalize plainF f0 = f at *
          obtain ⟨g1, g2, g3, g4⟩ := keeps HF (K := K) hn
          have HG := Lib.hid g4
          clear g4 HF
          go_upto_region 14 with (fail)
          clear hcc
          have L0 : Lw w wr.heap.size false [(w.heap.size, 300, f, 29)] (wr.alloc (.cells #[.bool false] 25)) :=
            ⟨Fl.made wr 25 false, hb.alloc hb.size _, hb.size, fun x hx => by
              obtain rfl := List.mem_singleton.1 hx
              exact ⟨Nat.le_refl _, by have := hP.lt; dsimp only; omega, hP.alloc _⟩⟩
          clear hP hb
          generalize World.alloc wr _ = WB at *
          generalize wr.heap.size = q at *
          have hZ : ∀ z : Array Value, z = rowA 24 (fun _ => 0) → Blk (WB.alloc (.cells z 27)) WB.heap.size (rowA 24 fun _ => 0) 27 := by rintro z rfl; exact (L0.made 24 (fun _ => 0) 27).get (.head _)
          have L1 := (L0.made 24 (fun _ => 0) 27).lay L0.newer (fun _ => 0)
          have L2 := L1.put L0.newer hK n
          have hc := row_at (L1.get (.head _)) (k := K) hK rfl
          have hf := (L1.get (.head _)).free K
          have hKI : (K : Int) < 24 := by omega
          have hK0 : (0 : Int) ≤ (K : Int) := by omega
          have HL := Lib.hid L2
          clear L0 L1 L2
          go_upto_region 15 with (first
            | (refine build_none ?_ 27 ?_ 24 (fun _ => 0) built24 ?_; rfl; rfl)
            | ((with_reducible refine row_store 27 (.tmp 10) (.tmp 59) ?_ ?_ WB.heap.size 24 (fun _ => 0) (fun _ => 0) 27 ?_ ?_ (hZ _ zero24) rowDSize ?_); rfl; rfl; rfl; rfl))
          rw [zero24]
          clear hZ
          go_upto_region 16 with (fail)
          clear hc hf
          generalize World.setCell _ _ _ = WC at *
          generalize WB.heap.size = Q at *
          have hs := HL.out
          clear HL
          refine wp_join [11, 63, 64, 65, 66, 67] (fun w' u => ∃ A, u 11 = .pointer (some ⟨A, 0, none⟩) ∧ Lw w q (false || stepH f oneG (upd (fun _ => 0) K n)) [(Q, 24, upd (fun _ => 0) K n, 27), (w.heap.size, 300, f, 29)] w' ∧ LwA w q [(Q, 24, upd (fun _ => 0) K n, 27), (w.heap.size, 300, f, 29)] A (stepF f oneG (upd (fun _ => 0) K n)) w')
            (fun u' => ⟨⟨.agg (rowA 300 f0) :: .int .i64 (K : Int) :: .int .i64 n :: .pointer (some ⟨w.heap.size, 0, none⟩) :: undef :: undef :: .bool false :: .int .i64 276 :: .int .i64 24 :: .pointer (some ⟨q, 0, none⟩) :: .pointer (some ⟨Q, 0, none⟩) :: u' 11 :: undef :: undef :: undef :: undef :: .bool true :: .bool false :: .int .i64 (K : Int) :: .bool (decide ((K : Int) < 0)) :: .bool (decide ((K : Int) < 0)) :: .int .i64 (K : Int) :: .bool (decide (23 < (K : Int))) :: .bool (decide ((K : Int) < 0) || decide (23 < (K : Int))) :: .bool (decide ((K : Int) < 0) || decide (23 < (K : Int))) :: .int .i64 n :: .bool (decide (n < 0)) :: .bool (decide ((K : Int) < 0) || decide (23 < (K : Int)) || decide (n < 0)) :: .bool (decide ((K : Int) < 0) || decide (23 < (K : Int)) || decide (n < 0)) :: .int .i64 n :: .bool (decide (17592186044416 < n)) :: .bool (decide ((K : Int) < 0) || decide (23 < (K : Int)) || decide (n < 0) || decide (17592186044416 < n)) :: .int .i64 276 :: .bool false :: u34 :: u35 :: u36 :: u37 :: u38 :: u39 :: u40 :: u41 :: u42 :: u43 :: .int .i64 24 :: .bool false :: u46 :: u47 :: u48 :: u49 :: u50 :: u51 :: u52 :: u53 :: u54 :: u55 :: u56 :: .agg #[.bool false] :: .pointer (some ⟨q, 0, none⟩) :: .agg (rowA 24 fun _ => 0) :: .int .i64 (K : Int) :: .int .i64 n :: .pointer (some ⟨Q, K, none⟩) :: u' 63 :: u' 64 :: u' 65 :: u' 66 :: u' 67 :: undef :: undef :: undef :: undef :: undef :: undef :: undef :: undef :: undef :: undef :: undef :: undef :: undef :: undef :: undef :: undef :: undef :: undef :: undef :: undef :: undef :: undef :: undef :: undef :: undef :: undef :: undef :: undef :: undef :: undef :: undef :: undef :: undef :: undef :: []⟩, []⟩) (fun u => by kernel_rfl) ?_ ?_
          · refine wp_region_held (S := fun w' => ∃ g, Lw w q g [(Q, 24, upd (fun _ => 0) K n, 27), (w.heap.size, 300, f, 29)] w') (by kernel_rfl) ?_
            change wpAnyH _ _ _ _ _ _ _ _ (World.drew _)
            replace hs := hs.drew
            generalize World.drew WC = W0 at *
            refine wpAnyH_take (i := 0) rfl (by kernel_rfl) (by kernel_rfl) (by kernel_rfl) (fun _ _ _ h => nomatch h.1) (yields_pure (v := .pointer (some ⟨q, 0, none⟩)) (by kernel_rfl) (fun _ => by kernel_rfl)) ⟨_, hs⟩ ?_
            refine wpAnyH_as (b := actK w.heap.size q Q f0 K n u34 u35 u36 u37 u38 u39 u40 u41 u42 u43 u46 u47 u48 u49 u50 u51 u52 u53 u54 u55 u56 undef (.pointer (some ⟨q, 0, none⟩)) undef undef undef undef) (by kernel_rfl) ?_
            refine wpAnyH_take (i := 1) rfl (by kernel_rfl) (by kernel_rfl) (by kernel_rfl) (fun _ _ _ h => nomatch h.1) (yields_row 29 (.tmp 3) (w.heap.size) 300 (f) 29 _ (by kernel_rfl) rfl (by kernel_rfl) (fun _ ⟨_, s⟩ => s.get (.tail _ (.head _))) Try.underlying29 rfl covSize) ⟨_, hs⟩ ?_
            refine wpAnyH_as (b := actK w.heap.size q Q f0 K n u34 u35 u36 u37 u38 u39 u40 u41 u42 u43 u46 u47 u48 u49 u50 u51 u52 u53 u54 u55 u56 undef (.pointer (some ⟨q, 0, none⟩)) (.agg (rowA 300 (f))) undef undef undef) (by kernel_rfl) ?_
            refine wpAnyH_take (i := 3) rfl (by kernel_rfl) (by kernel_rfl) (by kernel_rfl) (fun _ _ _ h => nomatch h.1) (yields_row 27 (.tmp 10) (Q) 24 (upd (fun _ => 0) K n) 27 _ (by kernel_rfl) rfl (by kernel_rfl) (fun _ ⟨_, s⟩ => s.get (.head _)) Try.underlying27 rfl rowDSize) ⟨_, hs⟩ ?_
            refine wpAnyH_as (b := actK w.heap.size q Q f0 K n u34 u35 u36 u37 u38 u39 u40 u41 u42 u43 u46 u47 u48 u49 u50 u51 u52 u53 u54 u55 u56 undef (.pointer (some ⟨q, 0, none⟩)) (.agg (rowA 300 (f))) undef (.agg (rowA 24 (upd (fun _ => 0) K n))) undef) (by kernel_rfl) ?_
            refine wpAnyH_all (rs := [2, 5]) (by kernel_rfl) (by simp) ?_
            intro i hi
            simp only [List.mem_cons, List.not_mem_nil, or_false] at hi
            rcases hi with rfl | rfl
            · refine wpOp_call (by kernel_rfl) (by kernel_rfl) (by kernel_rfl) (one_any _) ?_
              intro W1 k
              replace hs := hs.call k
              clear k
              refine ⟨⟨_, hs⟩, ?_⟩
              refine wpAnyH_as (b := actK w.heap.size q Q f0 K n u34 u35 u36 u37 u38 u39 u40 u41 u42 u43 u46 u47 u48 u49 u50 u51 u52 u53 u54 u55 u56 undef (.pointer (some ⟨q, 0, none⟩)) (.agg (rowA 300 (f))) (.agg (rowA 576 oneG)) (.agg (rowA 24 (upd (fun _ => 0) K n))) undef) (by kernel_rfl) ?_
              refine wpAnyH_all (rs := [4, 5]) (by kernel_rfl) (by simp) ?_
              intro i hi
              simp only [List.mem_cons, List.not_mem_nil, or_false] at hi
              rcases hi with rfl | rfl
              · refine wpOp_call (by kernel_rfl) (by kernel_rfl) (by kernel_rfl) (step_any q 0 f oneG (upd (fun _ => 0) K n) _ _ hs.fl) ?_
                intro W2 k
                replace hs := hs.flag k
                clear k
                refine ⟨⟨_, hs⟩, ?_⟩
                refine wpAnyH_as (b := actK w.heap.size q Q f0 K n u34 u35 u36 u37 u38 u39 u40 u41 u42 u43 u46 u47 u48 u49 u50 u51 u52 u53 u54 u55 u56 undef (.pointer (some ⟨q, 0, none⟩)) (.agg (rowA 300 (f))) (.agg (rowA 576 oneG)) (.agg (rowA 24 (upd (fun _ => 0) K n))) (.agg (rowA 300 (stepF f oneG (upd (fun _ => 0) K n))))) (by kernel_rfl) ?_
                refine wpAnyH_all (rs := [5]) (by kernel_rfl) (by simp) ?_
                intro i hi
                obtain rfl : i = 5 := by simpa using hi
                refine wpOp_value (by kernel_rfl) (by kernel_rfl) (w' := World.alloc W2 (.cells (rowA 300 fun _ => 0) 29)) (v := .pointer (some ⟨W2.heap.size, 0, none⟩)) (by rw [← zeroCov]; kernel_rfl) ?_
                have fA := hs.fresh 300 29
                replace hs := hs.alloc (.cells (rowA 300 fun _ => 0) 29)
                generalize World.alloc W2 _ = W3 at *
                generalize W2.heap.size = B3 at *
                refine ⟨⟨_, hs⟩, ?_⟩
                refine wpAnyH_as (b := actK w.heap.size q Q f0 K n u34 u35 u36 u37 u38 u39 u40 u41 u42 u43 u46 u47 u48 u49 u50 u51 u52 u53 u54 u55 u56 (.pointer (some ⟨B3, 0, none⟩)) (.pointer (some ⟨q, 0, none⟩)) (.agg (rowA 300 (f))) (.agg (rowA 576 oneG)) (.agg (rowA 24 (upd (fun _ => 0) K n))) (.agg (rowA 300 (stepF f oneG (upd (fun _ => 0) K n))))) (by kernel_rfl) ?_
                refine wpAnyH_all (rs := [6]) (by kernel_rfl) (by simp) ?_
                intro i hi
                obtain rfl : i = 6 := by simpa using hi
                refine wpOp_store (by kernel_rfl) (by kernel_rfl) 29 (.tmp 11) (.tmp 67) B3 300 (stepF f oneG (upd (fun _ => 0) K n)) (fun _ => 0) 29 (by kernel_rfl) (by kernel_rfl) (by kernel_rfl) fA.blk covSize ?_
                replace hs := hs.row fA.lo fA.gt (rowA 300 (stepF f oneG (upd (fun _ => 0) K n)))
                replace fA := fA.set (r := (stepF f oneG (upd (fun _ => 0) K n)))
                refine ⟨⟨_, hs⟩, ?_⟩
                refine wpAnyH_done (by kernel_rfl) ?_ _
                exact ⟨rfl, by kernel_rfl, B3, by kernel_rfl, hs, fA⟩
              · refine wpOp_value (by kernel_rfl) (by kernel_rfl) (w' := World.alloc W1 (.cells (rowA 300 fun _ => 0) 29)) (v := .pointer (some ⟨W1.heap.size, 0, none⟩)) (by rw [← zeroCov]; kernel_rfl) ?_
                have fA := hs.fresh 300 29
                replace hs := hs.alloc (.cells (rowA 300 fun _ => 0) 29)
                generalize World.alloc W1 _ = W5 at *
                generalize W1.heap.size = B5 at *
                refine ⟨⟨_, hs⟩, ?_⟩
                refine wpAnyH_as (b := actK w.heap.size q Q f0 K n u34 u35 u36 u37 u38 u39 u40 u41 u42 u43 u46 u47 u48 u49 u50 u51 u52 u53 u54 u55 u56 (.pointer (some ⟨B5, 0, none⟩)) (.pointer (some ⟨q, 0, none⟩)) (.agg (rowA 300 (f))) (.agg (rowA 576 oneG)) (.agg (rowA 24 (upd (fun _ => 0) K n))) undef) (by kernel_rfl) ?_
                refine wpAnyH_all (rs := [4]) (by kernel_rfl) (by simp) ?_
                intro i hi
                obtain rfl : i = 4 := by simpa using hi
                refine wpOp_call (by kernel_rfl) (by kernel_rfl) (by kernel_rfl) (step_any q 0 f oneG (upd (fun _ => 0) K n) _ _ hs.fl) ?_
                intro W6 k
                replace hs := hs.flag k
                replace fA := fA.flag k
                clear k
                refine ⟨⟨_, hs⟩, ?_⟩
                refine wpAnyH_as (b := actK w.heap.size q Q f0 K n u34 u35 u36 u37 u38 u39 u40 u41 u42 u43 u46 u47 u48 u49 u50 u51 u52 u53 u54 u55 u56 (.pointer (some ⟨B5, 0, none⟩)) (.pointer (some ⟨q, 0, none⟩)) (.agg (rowA 300 (f))) (.agg (rowA 576 oneG)) (.agg (rowA 24 (upd (fun _ => 0) K n))) (.agg (rowA 300 (stepF f oneG (upd (fun _ => 0) K n))))) (by kernel_rfl) ?_
                refine wpAnyH_all (rs := [6]) (by kernel_rfl) (by simp) ?_
                intro i hi
                obtain rfl : i = 6 := by simpa using hi
                refine wpOp_store (by kernel_rfl) (by kernel_rfl) 29 (.tmp 11) (.tmp 67) B5 300 (stepF f oneG (upd (fun _ => 0) K n)) (fun _ => 0) 29 (by kernel_rfl) (by kernel_rfl) (by kernel_rfl) fA.blk covSize ?_
                replace hs := hs.row fA.lo fA.gt (rowA 300 (stepF f oneG (upd (fun _ => 0) K n)))
                replace fA := fA.set (r := (stepF f oneG (upd (fun _ => 0) K n)))
                refine ⟨⟨_, hs⟩, ?_⟩
                refine wpAnyH_done (by kernel_rfl) ?_ _
                exact ⟨rfl, by kernel_rfl, B5, by kernel_rfl, hs, fA⟩
            · refine wpOp_value (by kernel_rfl) (by kernel_rfl) (w' := World.alloc W0 (.cells (rowA 300 fun _ => 0) 29)) (v := .pointer (some ⟨W0.heap.size, 0, none⟩)) (by rw [← zeroCov]; kernel_rfl) ?_
              have fA := hs.fresh 300 29
              replace hs := hs.alloc (.cells (rowA 300 fun _ => 0) 29)
              generalize World.alloc W0 _ = W8 at *
              generalize W0.heap.size = B8 at *
              refine ⟨⟨_, hs⟩, ?_⟩
              refine wpAnyH_as (b := actK w.heap.size q Q f0 K n u34 u35 u36 u37 u38 u39 u40 u41 u42 u43 u46 u47 u48 u49 u50 u51 u52 u53 u54 u55 u56 (.pointer (some ⟨B8, 0, none⟩)) (.pointer (some ⟨q, 0, none⟩)) (.agg (rowA 300 (f))) undef (.agg (rowA 24 (upd (fun _ => 0) K n))) undef) (by kernel_rfl) ?_
              refine wpAnyH_all (rs := [2]) (by kernel_rfl) (by simp) ?_
              intro i hi
              obtain rfl : i = 2 := by simpa using hi
              refine wpOp_call (by kernel_rfl) (by kernel_rfl) (by kernel_rfl) (one_any _) ?_
              intro W9 k
              replace hs := hs.call k
              replace fA := fA.call k
              clear k
              refine ⟨⟨_, hs⟩, ?_⟩
              refine wpAnyH_as (b := actK w.heap.size q Q f0 K n u34 u35 u36 u37 u38 u39 u40 u41 u42 u43 u46 u47 u48 u49 u50 u51 u52 u53 u54 u55 u56 (.pointer (some ⟨B8, 0, none⟩)) (.pointer (some ⟨q, 0, none⟩)) (.agg (rowA 300 (f))) (.agg (rowA 576 oneG)) (.agg (rowA 24 (upd (fun _ => 0) K n))) undef) (by kernel_rfl) ?_
              refine wpAnyH_all (rs := [4]) (by kernel_rfl) (by simp) ?_
              intro i hi
              obtain rfl : i = 4 := by simpa using hi
              refine wpOp_call (by kernel_rfl) (by kernel_rfl) (by kernel_rfl) (step_any q 0 f oneG (upd (fun _ => 0) K n) _ _ hs.fl) ?_
              intro W10 k
              replace hs := hs.flag k
              replace fA := fA.flag k
              clear k
              refine ⟨⟨_, hs⟩, ?_⟩
              refine wpAnyH_as (b := actK w.heap.size q Q f0 K n u34 u35 u36 u37 u38 u39 u40 u41 u42 u43 u46 u47 u48 u49 u50 u51 u52 u53 u54 u55 u56 (.pointer (some ⟨B8, 0, none⟩)) (.pointer (some ⟨q, 0, none⟩)) (.agg (rowA 300 (f))) (.agg (rowA 576 oneG)) (.agg (rowA 24 (upd (fun _ => 0) K n))) (.agg (rowA 300 (stepF f oneG (upd (fun _ => 0) K n))))) (by kernel_rfl) ?_
              refine wpAnyH_all (rs := [6]) (by kernel_rfl) (by simp) ?_
              intro i hi
              obtain rfl : i = 6 := by simpa using hi
              refine wpOp_store (by kernel_rfl) (by kernel_rfl) 29 (.tmp 11) (.tmp 67) B8 300 (stepF f oneG (upd (fun _ => 0) K n)) (fun _ => 0) 29 (by kernel_rfl) (by kernel_rfl) (by kernel_rfl) fA.blk covSize ?_
              replace hs := hs.row fA.lo fA.gt (rowA 300 (stepF f oneG (upd (fun _ => 0) K n)))
              replace fA := fA.set (r := (stepF f oneG (upd (fun _ => 0) K n)))
              refine ⟨⟨_, hs⟩, ?_⟩
              refine wpAnyH_done (by kernel_rfl) ?_ _
              exact ⟨rfl, by kernel_rfl, B8, by kernel_rfl, hs, fA⟩
          rintro wn u ⟨A, hu, hs, fA⟩
          rw [hu]
          have L5 := (hs.hit (by rw [g1]; rfl : (false || stepH f oneG (upd (fun _ => 0) K n)) = false)).join fA
          clear hs fA hu g1
          generalize stepF f oneG (upd (fun _ => 0) K n) = a at *
          have hP : Blk wn w.heap.size (rowA 300 f) 29 := L5.get (.tail _ (.tail _ (.head _)))
          go_wp2_with ((with_reducible refine row_load 29 (.tmp 3) ?_ ?_ w.heap.size 300 f 29 ?_ hP _ Try.underlying29 ?_ covSize ?_); rfl; rfl; rfl; rfl)
          refine (diag_any q 0 f _ _ L5.fl).mono ?_
          rintro e w6 ⟨rfl, k6⟩
          have L6 := (L5.flag k6).hit (by rw [g2]; rfl : (false || diagH f 24) = false)
          clear L5 k6 hP g2
          have hZ : ∀ z : Array Value, z = rowA 24 (fun _ => 0) → Blk (w6.alloc (.cells z 27)) w6.heap.size (rowA 24 fun _ => 0) 27 := by rintro z rfl; exact (L6.made 24 (fun _ => 0) 27).get (.head _)
          have L7 := (L6.made 24 (fun _ => 0) 27).lay L6.newer (diagF f 24)
          clear L6
          go_upto_region 18 with ((with_reducible refine row_store 27 (.tmp 12) (.tmp 70) ?_ ?_ w6.heap.size 24 (diagF f 24) (fun _ => 0) 27 ?_ ?_ (hZ _ zero24) rowDSize ?_); rfl; rfl; rfl; rfl)
          rw [zero24]
          clear hZ
          generalize World.setRow _ _ _ = w7 at *
          generalize w6.heap.size = X at *
          have hA : Blk w7 A (rowA 300 a) 29 := L7.get (.tail _ (.head _))
          go_wp2_with ((with_reducible refine row_load 29 (.tmp 11) ?_ ?_ A 300 a 29 ?_ hA _ Try.underlying29 ?_ covSize ?_); rfl; rfl; rfl; rfl)
          refine (diag_any q 0 a _ _ L7.fl).mono ?_
          rintro e w8 ⟨rfl, k8⟩
          have L8 := (L7.flag k8).hit (by rw [g3]; rfl : (false || diagH a 24) = false)
          clear L7 k8 hA g3
          have hZ : ∀ z : Array Value, z = rowA 24 (fun _ => 0) → Blk (w8.alloc (.cells z 27)) w8.heap.size (rowA 24 fun _ => 0) 27 := by rintro z rfl; exact (L8.made 24 (fun _ => 0) 27).get (.head _)
          have L9 := (L8.made 24 (fun _ => 0) 27).lay L8.newer (diagF a 24)
          clear L8
          go_upto_region 19 with ((with_reducible refine row_store 27 (.tmp 13) (.tmp 73) ?_ ?_ w8.heap.size 24 (diagF a 24) (fun _ => 0) 27 ?_ ?_ (hZ _ zero24) rowDSize ?_); rfl; rfl; rfl; rfl)
          rw [zero24]
          clear hZ
          generalize World.setRow _ _ _ = w9 at *
          generalize w8.heap.size = Y at *
          have HL := Lib.hid L9
          clear L9
          go_wp2_with fail
          go_loopw [14] (fun i' wr => ∃ i : Nat, i ≤ 24 ∧ i' = .int .i64 i ∧ Lw w q false [(Y, 24, diagF a 24, 27), (X, 24, diagF f 24, 27), (A, 300, a, 29), (Q, 24, upd (fun _ => 0) K n, 27), (w.heap.size, 300, f, 29)] wr) (fun i' _ => 24 - (intOf i').toNat)
          case atStart => exact ⟨0, by omega, rfl, HL.out⟩
          case round =>
            clear HL
            obtain ⟨i, hi, rfl, L⟩ := hrel
            by_cases hli : i < 24
            · have hliI : (i : Int) < 24 := by omega
              have hi0 : (0 : Int) ≤ (i : Int) := by omega
              have c1 := row_at (L.drew.get (.tail _ (.head _))) (k := i) hli (show diagF f 24 i = atV f (i : Int) (i : Int) from if_pos hli)
              have c2 := row_at (L.drew.get (.head _)) (k := i) hli (show diagF a 24 i = atV a (i : Int) (i : Int) from if_pos hli)
              obtain ⟨b1, b2, b3, b4⟩ := HG.out i hli
              generalize atV f (i : Int) (i : Int) = x at *
              generalize atV a (i : Int) (i : Int) = y at *
              have hq2 : 0 ≤ (if i = K then n else 0) ∧ (if i = K then n else 0) ≤ 17592186044416 := by split <;> omega
              have e0 : IntKind.i64.wrap (y - x) = y - x := i64_id _ (by omega) (by omega)
              have HS := Lib.hid L.drew
              clear L
              go_upto_region 22 with (fail)
              go_region_held3 (fun w' => w'.cell? ⟨X, i, none⟩ = some (.int .i64 x) ∧ w'.cell? ⟨Y, i, none⟩ = some (.int .i64 y))
                ((exact ⟨c1, c2⟩))
                (first | (go_at_call 41; skip))
              clear c1 c2 e0
              generalize hd : y - x = dd at *
              by_cases hik : i = K
              · subst hik
                rw [if_pos rfl] at b3 b4 hq2
                have hbq : ((i : Int) == (i : Int)) = true := by simp
                have e1 : wrap64 (dd - n) = dd - n := wrap64_in _ (by omega) (by omega)
                have g1 : ¬ (4294967296 : Int) < dd - n := by omega
                have g2 : ¬ dd - n < (-4294967296 : Int) := by omega
                clear hd b1 b2 b3 b4 hq2 HG
                go_wp2_with fail
                go_roundw
                case rel => exact ⟨i + 1, by omega, by go_num, HS.out⟩
                case measure => simp [intOf]; omega
              · rw [if_neg hik] at b3 b4
                have hbq : ((i : Int) == (K : Int)) = false := by simp; omega
                have g1 : ¬ (4294967296 : Int) < dd := by omega
                have g2 : ¬ dd < (-4294967296 : Int) := by omega
                clear hd b1 b2 b3 b4 hq2 HG
                go_wp2_with fail
                go_roundw
                case rel => exact ⟨i + 1, by omega, by go_num, HS.out⟩
                case measure => simp [intOf]; omega
            · obtain rfl : i = 24 := by omega
              clear hli hi HG
              have hl24 : ¬ ((24 : Nat) : Int) < 24 := by omega
              have hc := L.fl.cell
              have hbe := L.be
              clear L
              go_wp2_with fail
              go_ret
              exact ⟨rfl, hbe⟩
end Go.Proofs.Ytadeadpcpgfkbaa.thorntonKeeps
