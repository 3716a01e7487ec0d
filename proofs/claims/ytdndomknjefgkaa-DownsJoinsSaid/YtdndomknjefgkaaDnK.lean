/- Samples are joined; the document's own sampler, whatever is put in. -/
import Derived.Test.YtdndomknjefgkaaDnJ
namespace Go.Proofs.Ytdndomknjefgkaa.Rg
open Go.RowKit
theorem drput_any (A : Nat) (F i : Nat → Int) (w : World) (hA : Blk w A (rowA 10 F) 45) (hm : Mod 1 (pend F)) :
    Calls Try.prog 15 #[.pointer (some ⟨A, 0, none⟩), .agg (rowA 8 i)] w fun e w' =>
      e = .returned (.tuple #[.agg (rowA 8 (toldR F i)), .bool (told F i), .int .i64 (errI F i)]) ∧ Blk w' A (rowA 10 (nextF F i)) 45 ∧ Tch [A] w w' := by
  have bad : took F i = false → ∀ e w', e = Ending.returned (.tuple #[.agg (rowA 8 fun _ => 0), .bool false, .int .i64 1]) → Below w.heap.size w w' →
      e = .returned (.tuple #[.agg (rowA 8 (toldR F i)), .bool (told F i), .int .i64 (errI F i)]) ∧ Blk w' A (rowA 10 (nextF F i)) 45 ∧ Tch [A] w w' := by
    intro ht e w' he hb
    have h1 : told F i = false := by unfold told; rw [ht]; rfl
    refine ⟨?_, (hA.below hb hA.lt).congr fun j _ => ?_, .of _ hb⟩
    · rw [he, h1, rowA_congr (g := toldR F i) fun j _ => by unfold toldR; rw [h1]; rfl]
      unfold errI
      rw [ht]; rfl
    · unfold nextF; rw [ht]; rfl
  cases hk : okI i
  · exact (rput_bad0 A i w hk).mono fun e w' ⟨he, hb⟩ => bad (by unfold took; rw [hk]; rfl) e w' he hb
  · by_cases hle : i 0 ≤ F 1
    · exact (rput_bad1 A F i w hA hk hle).mono fun e w' ⟨he, hb⟩ => bad (by unfold took; rw [hk, decide_eq_false (by omega)]; rfl) e w' he hb
    · refine (rput_go A F i w hA hk hle hm).mono fun e w' ⟨he, h1⟩ => ⟨?_, h1⟩
      rw [he]
      unfold errI took
      rw [hk, decide_eq_true (by omega)]; rfl
set_option maxHeartbeats 4000000 in
theorem own_any14 (a : Int) (w : World) : Calls Try.prog 14 #[.int .i64 a] w fun e w' => e = .returned (.pointer (some ⟨w.heap.size, 0, none⟩)) ∧ Blk w' w.heap.size (rowA 10 (newS a)) 45 ∧ Below w.heap.size w w' := by
  go_enter Try.func14, Try.ntmps14
  go_wp2
  go_ret
  exact ⟨rfl, Blk.made _ _ _ rfl, (Below.refl _ _).alloc (Nat.le_refl _) _⟩
def actJ (p o s q gg oo n c k : Nat) (y : Nat → Int) (u5 u37 u38 : Value) (a19 a20 a21 a22 a23 a24 a25 a26 a27 a28 a29 a30 a31 a32 a33 a34 a35 a36 : Value) : Act := ⟨⟨.pointer (some ⟨p, o, none⟩) :: .slice (some ⟨gg, oo, none⟩) n c :: undef :: undef :: .pointer (some ⟨s, 0, none⟩) :: u5 :: .int .i64 k :: .pointer (some ⟨q, 0, none⟩) :: .slice (some ⟨gg, oo, none⟩) n c :: .int .i64 n :: .bool false :: undef :: .slice (some ⟨gg, oo, none⟩) n c :: .int .i64 n :: .int .i64 k :: .bool true :: .int .i64 k :: .pointer (some ⟨gg, oo + k * 8, none⟩) :: .agg (rowA 8 y) :: a19 :: a20 :: a21 :: a22 :: a23 :: a24 :: a25 :: a26 :: a27 :: a28 :: a29 :: a30 :: a31 :: a32 :: a33 :: a34 :: a35 :: a36 :: u37 :: u38 :: undef :: undef :: undef :: []⟩, []⟩
/-- May the first k be joined? -/
def joinB (l : List Sam) : Nat → Bool
  | 0 => true
  | k + 1 => joinB l k && okI (fn (l.getD k [])) && (Nat.beq k 0 || decide (fn (l.getD (k - 1) []) 0 < fn (l.getD k []) 0))
theorem joinB_false {l : List Sam} : ∀ (n k : Nat), k < n → joinB l (k + 1) = false → joinB l n = false
  | n + 1, k, hk, h => by
    by_cases e : k = n
    · subst e; exact h
    · unfold joinB; rw [joinB_false n k (by omega) h]; rfl
theorem joinB_mod {l : List Sam} : ∀ (n : Nat), joinB l n = true → ∀ k, k < n → Mod 1 (fn (l.getD k []))
  | n + 1, h, k, hk => by
    unfold joinB at h
    rw [Bool.and_eq_true, Bool.and_eq_true] at h
    by_cases e : k = n
    · subst e; exact okI_mod h.1.2
    · exact joinB_mod n h.1.1 k (by omega)
def joinE (l : List Sam) : Int := if joinB l l.length = true ∧ l.length ≠ 0 then 0 else 1
def joinR (l : List Sam) (j : Nat) : Int := if joinB l l.length = true ∧ l.length ≠ 0 then foldI (fun _ => 0) l j else 0
set_option maxRecDepth 100000 in
set_option maxHeartbeats 16000000 in
theorem join_any (p o : Nat) (ad : Option Addr) (n c : Nat) (l : List Sam) (h : Bool) (w : World) (f : Fl p o h w) (hl : Arg 8 w ad n l) (hp : ∀ g o', ad = some ⟨g, o', none⟩ → g ≠ p) (hn : n ≤ 1000) :
    Calls Try.prog 11 #[.pointer (some ⟨p, o, none⟩), .slice ad n c] w fun e w' => e = .returned (.tuple #[.agg (rowA 8 (joinR l)), .int .i64 (joinE l)]) ∧ FlW p o h w w' := by
  have HL := Lib.hid hl
  have hln := hl.len
  clear hl
  have bad : (joinB l l.length = false ∨ l.length = 0) → Ending.returned (.tuple #[.agg (rowA 8 fun _ => 0), .int .i64 1]) = .returned (.tuple #[.agg (rowA 8 (joinR l)), .int .i64 (joinE l)]) := by
    intro hb
    have hc : ¬ (joinB l l.length = true ∧ l.length ≠ 0) := by rintro ⟨h1, h2⟩; rcases hb with h | h <;> simp_all
    rw [rowA_congr (f := fun _ => 0) (g := joinR l) fun j _ => by unfold joinR; rw [if_neg hc], show joinE l = 1 by unfold joinE; rw [if_neg hc]]
  have BAD := Lib.hid bad
  clear bad
  have hZ0 : Blk (w.alloc (.cells #[.int .i64 0, .int .i64 0, .int .i64 0, .int .i64 0, .int .i64 0, .int .i64 0, .int .i64 0, .int .i64 0] 32)) w.heap.size (rowA 8 fun _ => 0) 32 := Blk.made _ _ _ rfl
  have kF0 : FlW p o h w (w.alloc (.cells #[.int .i64 0, .int .i64 0, .int .i64 0, .int .i64 0, .int .i64 0, .int .i64 0, .int .i64 0, .int .i64 0] 32)) := (FlW.refl f).alloc _
  have HLen := Lib.hid hln
  by_cases h0 : n = 0
  · subst h0
    clear hln
    go_enter Try.func11, Try.ntmps11
    go_wp2_with ((with_reducible refine row_store 32 (.tmp 4) (.tmp 11) ?_ ?_ w.heap.size 8 (fun _ => 0) (fun _ => 0) 32 ?_ ?_ hZ0 imuSize ?_); rfl; rfl; rfl; rfl)
    refine bodyPost_ret (v := .tuple #[.agg (rowA 8 fun _ => 0), .int .i64 1]) (results_row1 rfl _ _ w.heap.size 8 _ _ _ rfl hZ0.setRow Try.underlying32 rfl imuSize rfl) rfl ⟨BAD.out (.inr HLen.out), kF0.row (Nat.le_refl _) _⟩
  · have h0I : ¬ ((n : Int) = 0) := by omega
    have h0E : ((n : Int) == 0) = false := by simpa using h0
    clear hln
    go_enter Try.func11, Try.ntmps11
    go_wp2_with fail
    generalize hs : w.heap.size = s at *
    have R0 := Lib.hid hZ0
    have K0 := Lib.hid kF0
    clear hZ0 kF0
    go_loopw [14] (fun i wr => ∃ k : Nat, i = .int .i64 k ∧ k ≤ n ∧ joinB l k = true ∧ Hid (FlW p o h w wr) ∧ Hid (Blk wr s (rowA 8 fun _ => 0) 32)) (fun i _ => n - (intOf i).toNat)
    case atStart => exact ⟨0, rfl, Nat.zero_le _, rfl, K0, R0⟩
    case round =>
      clear R0 K0
      obtain ⟨k, rfl, hk, hjb, hF, hR⟩ := hrel
      have hkI0 : (0 : Int) ≤ (k : Int) := by omega
      have JB := Lib.hid hjb
      clear hjb
      by_cases hlt : k < n
      · have hltI : (k : Int) < (n : Int) := by omega
        obtain ⟨gg, oo, y', rfl, hy, hy8, hgw, hI0⟩ := HL.out.one hlt
        have hgp := hp gg oo rfl
        have hI : Ints wr gg (oo + k * 8) 8 (fn y') := hI0.flag hgw hgp hF.out
        clear hI0
        have HY := Lib.hid hy
        clear hy
        have hZ : Blk (wr.alloc (.cells #[.int .i64 0, .int .i64 0, .int .i64 0, .int .i64 0, .int .i64 0, .int .i64 0, .int .i64 0, .int .i64 0] 32)) wr.heap.size (rowA 8 fun _ => 0) 32 := Blk.made _ _ _ rfl
        go_upto_region 6 with (first
          | ((with_reducible refine mid_load 32 (.tmp 17) ?_ ?_ gg (oo + k * 8) 8 (fn y') ?_ hI _ Try.underlying32 ?_ imuSize ?_); rfl; rfl; rfl; rfl)
          | ((with_reducible refine row_store 32 (.tmp 7) (.tmp 18) ?_ ?_ wr.heap.size 8 (fn y') (fun _ => 0) 32 ?_ ?_ hZ imuSize ?_); rfl; rfl; rfl; rfl))
        have hq := hZ.setRow (d := rowA 8 (fn y'))
        have FX := (hF.out.alloc (.cells #[.int .i64 0, .int .i64 0, .int .i64 0, .int .i64 0, .int .i64 0, .int .i64 0, .int .i64 0, .int .i64 0] 32)).row (b := wr.heap.size) (by have := hF.out.size; omega) (rowA 8 (fn y'))
        have RX := (hR.out.alloc (.cells #[.int .i64 0, .int .i64 0, .int .i64 0, .int .i64 0, .int .i64 0, .int .i64 0, .int .i64 0, .int .i64 0] 32)).otherRow (b := wr.heap.size) (d := rowA 8 (fn y')) (Nat.ne_of_lt hR.out.lt)
        have hIX : ∀ k', k' < n → ∃ y1, y1 = l.getD k' [] ∧ Ints ((wr.alloc (.cells #[.int .i64 0, .int .i64 0, .int .i64 0, .int .i64 0, .int .i64 0, .int .i64 0, .int .i64 0, .int .i64 0] 32)).setRow wr.heap.size (rowA 8 (fn y'))) gg (oo + k' * 8) 8 (fn y1) := fun k' hk' => by
          obtain ⟨g2, o2, y1, e, h1, _, hg, hI1⟩ := HL.out.one hk'
          injection e with e; injection e with e1 e2; subst e1 e2
          exact ⟨y1, h1, hI1.flag hgw hgp FX⟩
        have hgX : gg < ((wr.alloc (.cells #[.int .i64 0, .int .i64 0, .int .i64 0, .int .i64 0, .int .i64 0, .int .i64 0, .int .i64 0, .int .i64 0] 32)).setRow wr.heap.size (rowA 8 (fn y'))).heap.size := Nat.lt_of_lt_of_le hgw FX.size
        have hIX := Lib.hid hIX
        clear hZ hR hF hI
        generalize World.setRow _ wr.heap.size _ = X at *
        generalize wr.heap.size = q at *
        change Code.wp _ _ _ ⟨_, _⟩ _
        cases hok : okI (fn y')
        · refine rg_in (Below X.heap.size X) (by kernel_rfl) (by kernel_rfl) (Below.refl _ _).drew ?_
          refine rq_start ?_
          refine rq_as (b := actJ p o s q gg oo n c k (fn y') u5 u37 u38 u19 u20 u21 u22 u23 u24 u25 u26 u27 u28 u29 u30 u31 u32 u33 u34 u35 u36) (by kernel_rfl) ?_
          refine rq_row 32 (.tmp 7) q 8 (fn y') 32 _ (by kernel_rfl) rfl (by kernel_rfl) (fun w hc => hq.below hc hq.lt) Try.underlying32 rfl imuSize ?_
          refine rq_as (b := actJ p o s q gg oo n c k (fn y') u5 u37 u38 (.agg (rowA 8 (fn y'))) u20 u21 u22 u23 u24 u25 u26 u27 u28 u29 u30 u31 u32 u33 u34 u35 u36) (by kernel_rfl) ?_
          refine rq_call (.bool false) 12 #[.agg (rowA 8 (fn y'))] (by kernel_rfl) (fun _ => by kernel_rfl) (fun w hc => (goodr (fn y') false w hok).mono fun e w' ⟨he, hb⟩ => ⟨he, hc.trans (hb.mono hc.size)⟩) ?_
          refine rq_as (b := actJ p o s q gg oo n c k (fn y') u5 u37 u38 (.agg (rowA 8 (fn y'))) (.bool false) u21 u22 u23 u24 u25 u26 u27 u28 u29 u30 u31 u32 u33 u34 u35 u36) (by kernel_rfl) ?_
          refine rq_pure (.bool true) (by kernel_rfl) (fun _ => by kernel_rfl) ?_
          refine rq_as (b := actJ p o s q gg oo n c k (fn y') u5 u37 u38 (.agg (rowA 8 (fn y'))) (.bool false) (.bool true) u22 u23 u24 u25 u26 u27 u28 u29 u30 u31 u32 u33 u34 u35 u36) (by kernel_rfl) ?_
          refine rq_pure (.bool true) (by kernel_rfl) (fun _ => by kernel_rfl) ?_
          refine rq_as (b := actJ p o s q gg oo n c k (fn y') u5 u37 u38 (.agg (rowA 8 (fn y'))) (.bool false) (.bool true) (.bool true) u23 u24 u25 u26 u27 u28 u29 u30 u31 u32 u33 u34 u35 u36) (by kernel_rfl) ?_
          refine rq_skip (by kernel_rfl) ?_
          refine rq_as (b := actJ p o s q gg oo n c k (fn y') u5 u37 u38 (.agg (rowA 8 (fn y'))) (.bool false) (.bool true) (.bool true) (undef) u24 u25 u26 u27 u28 u29 u30 u31 u32 u33 u34 u35 u36) (by kernel_rfl) ?_
          refine rq_skip (by kernel_rfl) ?_
          refine rq_as (b := actJ p o s q gg oo n c k (fn y') u5 u37 u38 (.agg (rowA 8 (fn y'))) (.bool false) (.bool true) (.bool true) (undef) (undef) u25 u26 u27 u28 u29 u30 u31 u32 u33 u34 u35 u36) (by kernel_rfl) ?_
          refine rq_skip (by kernel_rfl) ?_
          refine rq_as (b := actJ p o s q gg oo n c k (fn y') u5 u37 u38 (.agg (rowA 8 (fn y'))) (.bool false) (.bool true) (.bool true) (undef) (undef) (undef) u26 u27 u28 u29 u30 u31 u32 u33 u34 u35 u36) (by kernel_rfl) ?_
          refine rq_skip (by kernel_rfl) ?_
          refine rq_as (b := actJ p o s q gg oo n c k (fn y') u5 u37 u38 (.agg (rowA 8 (fn y'))) (.bool false) (.bool true) (.bool true) (undef) (undef) (undef) (undef) u27 u28 u29 u30 u31 u32 u33 u34 u35 u36) (by kernel_rfl) ?_
          refine rq_skip (by kernel_rfl) ?_
          refine rq_as (b := actJ p o s q gg oo n c k (fn y') u5 u37 u38 (.agg (rowA 8 (fn y'))) (.bool false) (.bool true) (.bool true) (undef) (undef) (undef) (undef) (undef) u28 u29 u30 u31 u32 u33 u34 u35 u36) (by kernel_rfl) ?_
          refine rq_skip (by kernel_rfl) ?_
          refine rq_as (b := actJ p o s q gg oo n c k (fn y') u5 u37 u38 (.agg (rowA 8 (fn y'))) (.bool false) (.bool true) (.bool true) (undef) (undef) (undef) (undef) (undef) (undef) u29 u30 u31 u32 u33 u34 u35 u36) (by kernel_rfl) ?_
          refine rq_skip (by kernel_rfl) ?_
          refine rq_as (b := actJ p o s q gg oo n c k (fn y') u5 u37 u38 (.agg (rowA 8 (fn y'))) (.bool false) (.bool true) (.bool true) (undef) (undef) (undef) (undef) (undef) (undef) (undef) u30 u31 u32 u33 u34 u35 u36) (by kernel_rfl) ?_
          refine rq_skip (by kernel_rfl) ?_
          refine rq_as (b := actJ p o s q gg oo n c k (fn y') u5 u37 u38 (.agg (rowA 8 (fn y'))) (.bool false) (.bool true) (.bool true) (undef) (undef) (undef) (undef) (undef) (undef) (undef) (undef) u31 u32 u33 u34 u35 u36) (by kernel_rfl) ?_
          refine rq_skip (by kernel_rfl) ?_
          refine rq_as (b := actJ p o s q gg oo n c k (fn y') u5 u37 u38 (.agg (rowA 8 (fn y'))) (.bool false) (.bool true) (.bool true) (undef) (undef) (undef) (undef) (undef) (undef) (undef) (undef) (undef) u32 u33 u34 u35 u36) (by kernel_rfl) ?_
          refine rq_skip (by kernel_rfl) ?_
          refine rq_as (b := actJ p o s q gg oo n c k (fn y') u5 u37 u38 (.agg (rowA 8 (fn y'))) (.bool false) (.bool true) (.bool true) (undef) (undef) (undef) (undef) (undef) (undef) (undef) (undef) (undef) (undef) u33 u34 u35 u36) (by kernel_rfl) ?_
          refine rq_skip (by kernel_rfl) ?_
          refine rq_as (b := actJ p o s q gg oo n c k (fn y') u5 u37 u38 (.agg (rowA 8 (fn y'))) (.bool false) (.bool true) (.bool true) (undef) (undef) (undef) (undef) (undef) (undef) (undef) (undef) (undef) (undef) (undef) u34 u35 u36) (by kernel_rfl) ?_
          refine rq_skip (by kernel_rfl) ?_
          refine rq_as (b := actJ p o s q gg oo n c k (fn y') u5 u37 u38 (.agg (rowA 8 (fn y'))) (.bool false) (.bool true) (.bool true) (undef) (undef) (undef) (undef) (undef) (undef) (undef) (undef) (undef) (undef) (undef) (undef) u35 u36) (by kernel_rfl) ?_
          refine rq_skip (by kernel_rfl) ?_
          refine rq_as (b := actJ p o s q gg oo n c k (fn y') u5 u37 u38 (.agg (rowA 8 (fn y'))) (.bool false) (.bool true) (.bool true) (undef) (undef) (undef) (undef) (undef) (undef) (undef) (undef) (undef) (undef) (undef) (undef) (undef) u36) (by kernel_rfl) ?_
          refine rq_pure (.bool true) (by kernel_rfl) (fun _ => by kernel_rfl) ?_
          refine rq_as (b := actJ p o s q gg oo n c k (fn y') u5 u37 u38 (.agg (rowA 8 (fn y'))) (.bool false) (.bool true) (.bool true) (undef) (undef) (undef) (undef) (undef) (undef) (undef) (undef) (undef) (undef) (undef) (undef) (undef) (.bool true)) (by kernel_rfl) ?_
          refine rq_nil fun w1 hb => ?_
          unfold actJ
          have r1 := RX.below hb RX.lt
          have F1 := FX.then hb
          clear hb hq RX FX hIX
          go_wp2_with ((with_reducible refine row_store 32 (.tmp 4) (.tmp 37) ?_ ?_ s 8 (fun _ => 0) (fun _ => 0) 32 ?_ ?_ r1 imuSize ?_); rfl; rfl; rfl; rfl)
          refine bodyPost_ret (v := .tuple #[.agg (rowA 8 fun _ => 0), .int .i64 1]) (results_row1 rfl _ _ s 8 _ _ _ rfl r1.setRow Try.underlying32 rfl imuSize rfl) rfl ⟨BAD.out (.inl (joinB_false _ k (by have := HLen.out; omega) (by unfold joinB; rw [← HY.out, hok]; simp))), F1.row (by omega) _⟩
        · obtain rfl | ⟨k', rfl⟩ : k = 0 ∨ ∃ k', k = k' + 1 := by cases k; exact .inl rfl; exact .inr ⟨_, rfl⟩
          · refine rg_in (Below X.heap.size X) (by kernel_rfl) (by kernel_rfl) (Below.refl _ _).drew ?_
            refine rq_start ?_
            refine rq_as (b := actJ p o s q gg oo n c 0 (fn y') u5 u37 u38 u19 u20 u21 u22 u23 u24 u25 u26 u27 u28 u29 u30 u31 u32 u33 u34 u35 u36) (by kernel_rfl) ?_
            refine rq_row 32 (.tmp 7) q 8 (fn y') 32 _ (by kernel_rfl) rfl (by kernel_rfl) (fun w hc => hq.below hc hq.lt) Try.underlying32 rfl imuSize ?_
            refine rq_as (b := actJ p o s q gg oo n c 0 (fn y') u5 u37 u38 (.agg (rowA 8 (fn y'))) u20 u21 u22 u23 u24 u25 u26 u27 u28 u29 u30 u31 u32 u33 u34 u35 u36) (by kernel_rfl) ?_
            refine rq_call (.bool true) 12 #[.agg (rowA 8 (fn y'))] (by kernel_rfl) (fun _ => by kernel_rfl) (fun w hc => (goodr (fn y') true w hok).mono fun e w' ⟨he, hb⟩ => ⟨he, hc.trans (hb.mono hc.size)⟩) ?_
            refine rq_as (b := actJ p o s q gg oo n c 0 (fn y') u5 u37 u38 (.agg (rowA 8 (fn y'))) (.bool true) u21 u22 u23 u24 u25 u26 u27 u28 u29 u30 u31 u32 u33 u34 u35 u36) (by kernel_rfl) ?_
            refine rq_pure (.bool false) (by kernel_rfl) (fun _ => by kernel_rfl) ?_
            refine rq_as (b := actJ p o s q gg oo n c 0 (fn y') u5 u37 u38 (.agg (rowA 8 (fn y'))) (.bool true) (.bool false) u22 u23 u24 u25 u26 u27 u28 u29 u30 u31 u32 u33 u34 u35 u36) (by kernel_rfl) ?_
            refine rq_pure (.bool false) (by kernel_rfl) (fun _ => by kernel_rfl) ?_
            refine rq_as (b := actJ p o s q gg oo n c 0 (fn y') u5 u37 u38 (.agg (rowA 8 (fn y'))) (.bool true) (.bool false) (.bool false) u23 u24 u25 u26 u27 u28 u29 u30 u31 u32 u33 u34 u35 u36) (by kernel_rfl) ?_
            refine rq_pure (.int .i64 (0 : Nat)) (by kernel_rfl) (fun _ => by kernel_rfl) ?_
            refine rq_as (b := actJ p o s q gg oo n c 0 (fn y') u5 u37 u38 (.agg (rowA 8 (fn y'))) (.bool true) (.bool false) (.bool false) (.int .i64 (0 : Nat)) u24 u25 u26 u27 u28 u29 u30 u31 u32 u33 u34 u35 u36) (by kernel_rfl) ?_
            refine rq_pure (.bool false) (by kernel_rfl) (fun _ => by kernel_rfl) ?_
            refine rq_as (b := actJ p o s q gg oo n c 0 (fn y') u5 u37 u38 (.agg (rowA 8 (fn y'))) (.bool true) (.bool false) (.bool false) (.int .i64 (0 : Nat)) (.bool false) u25 u26 u27 u28 u29 u30 u31 u32 u33 u34 u35 u36) (by kernel_rfl) ?_
            refine rq_pure (.bool false) (by kernel_rfl) (fun _ => by kernel_rfl) ?_
            refine rq_as (b := actJ p o s q gg oo n c 0 (fn y') u5 u37 u38 (.agg (rowA 8 (fn y'))) (.bool true) (.bool false) (.bool false) (.int .i64 (0 : Nat)) (.bool false) (.bool false) u26 u27 u28 u29 u30 u31 u32 u33 u34 u35 u36) (by kernel_rfl) ?_
            refine rq_skip (by kernel_rfl) ?_
            refine rq_as (b := actJ p o s q gg oo n c 0 (fn y') u5 u37 u38 (.agg (rowA 8 (fn y'))) (.bool true) (.bool false) (.bool false) (.int .i64 (0 : Nat)) (.bool false) (.bool false) (undef) u27 u28 u29 u30 u31 u32 u33 u34 u35 u36) (by kernel_rfl) ?_
            refine rq_skip (by kernel_rfl) ?_
            refine rq_as (b := actJ p o s q gg oo n c 0 (fn y') u5 u37 u38 (.agg (rowA 8 (fn y'))) (.bool true) (.bool false) (.bool false) (.int .i64 (0 : Nat)) (.bool false) (.bool false) (undef) (undef) u28 u29 u30 u31 u32 u33 u34 u35 u36) (by kernel_rfl) ?_
            refine rq_skip (by kernel_rfl) ?_
            refine rq_as (b := actJ p o s q gg oo n c 0 (fn y') u5 u37 u38 (.agg (rowA 8 (fn y'))) (.bool true) (.bool false) (.bool false) (.int .i64 (0 : Nat)) (.bool false) (.bool false) (undef) (undef) (undef) u29 u30 u31 u32 u33 u34 u35 u36) (by kernel_rfl) ?_
            refine rq_skip (by kernel_rfl) ?_
            refine rq_as (b := actJ p o s q gg oo n c 0 (fn y') u5 u37 u38 (.agg (rowA 8 (fn y'))) (.bool true) (.bool false) (.bool false) (.int .i64 (0 : Nat)) (.bool false) (.bool false) (undef) (undef) (undef) (undef) u30 u31 u32 u33 u34 u35 u36) (by kernel_rfl) ?_
            refine rq_skip (by kernel_rfl) ?_
            refine rq_as (b := actJ p o s q gg oo n c 0 (fn y') u5 u37 u38 (.agg (rowA 8 (fn y'))) (.bool true) (.bool false) (.bool false) (.int .i64 (0 : Nat)) (.bool false) (.bool false) (undef) (undef) (undef) (undef) (undef) u31 u32 u33 u34 u35 u36) (by kernel_rfl) ?_
            refine rq_skip (by kernel_rfl) ?_
            refine rq_as (b := actJ p o s q gg oo n c 0 (fn y') u5 u37 u38 (.agg (rowA 8 (fn y'))) (.bool true) (.bool false) (.bool false) (.int .i64 (0 : Nat)) (.bool false) (.bool false) (undef) (undef) (undef) (undef) (undef) (undef) u32 u33 u34 u35 u36) (by kernel_rfl) ?_
            refine rq_skip (by kernel_rfl) ?_
            refine rq_as (b := actJ p o s q gg oo n c 0 (fn y') u5 u37 u38 (.agg (rowA 8 (fn y'))) (.bool true) (.bool false) (.bool false) (.int .i64 (0 : Nat)) (.bool false) (.bool false) (undef) (undef) (undef) (undef) (undef) (undef) (undef) u33 u34 u35 u36) (by kernel_rfl) ?_
            refine rq_skip (by kernel_rfl) ?_
            refine rq_as (b := actJ p o s q gg oo n c 0 (fn y') u5 u37 u38 (.agg (rowA 8 (fn y'))) (.bool true) (.bool false) (.bool false) (.int .i64 (0 : Nat)) (.bool false) (.bool false) (undef) (undef) (undef) (undef) (undef) (undef) (undef) (undef) u34 u35 u36) (by kernel_rfl) ?_
            refine rq_skip (by kernel_rfl) ?_
            refine rq_as (b := actJ p o s q gg oo n c 0 (fn y') u5 u37 u38 (.agg (rowA 8 (fn y'))) (.bool true) (.bool false) (.bool false) (.int .i64 (0 : Nat)) (.bool false) (.bool false) (undef) (undef) (undef) (undef) (undef) (undef) (undef) (undef) (undef) u35 u36) (by kernel_rfl) ?_
            refine rq_pure (.bool false) (by kernel_rfl) (fun _ => by kernel_rfl) ?_
            refine rq_as (b := actJ p o s q gg oo n c 0 (fn y') u5 u37 u38 (.agg (rowA 8 (fn y'))) (.bool true) (.bool false) (.bool false) (.int .i64 (0 : Nat)) (.bool false) (.bool false) (undef) (undef) (undef) (undef) (undef) (undef) (undef) (undef) (undef) (.bool false) u36) (by kernel_rfl) ?_
            refine rq_pure (.bool false) (by kernel_rfl) (fun _ => by kernel_rfl) ?_
            refine rq_as (b := actJ p o s q gg oo n c 0 (fn y') u5 u37 u38 (.agg (rowA 8 (fn y'))) (.bool true) (.bool false) (.bool false) (.int .i64 (0 : Nat)) (.bool false) (.bool false) (undef) (undef) (undef) (undef) (undef) (undef) (undef) (undef) (undef) (.bool false) (.bool false)) (by kernel_rfl) ?_
            refine rq_nil fun w1 hb => ?_
            unfold actJ
            have r1 := RX.below hb RX.lt
            have F1 := FX.then hb
            clear hb hq RX FX hIX
            have hnext := Lib.hid (show joinB l (0 + 1) = true by unfold joinB; rw [← HY.out, hok]; rfl)
            go_wp2_with fail
            go_roundw
            case rel => exact ⟨0 + 1, by go_num, by omega, hnext.out, Lib.hid F1, Lib.hid r1⟩
            case measure => simp [intOf]; omega
          · obtain ⟨y1, hy1, hI1⟩ := hIX.out k' (by omega)
            have hgx := hgX
            have hkn : (k' : Int) < (n : Int) := by omega
            have hk1 : (0 : Int) < ((k' + 1 : Nat) : Int) := by omega
            have hk2 : (0 : Int) ≤ (k' : Int) := by omega
            have hw1 : IntKind.i64.wrap (((k' + 1 : Nat) : Int) - 1) = (k' : Int) := by rw [IntKind.wrap_i64]; omega
            have hww : IntKind.i64.wrap (k' : Int) = (k' : Int) := by rw [IntKind.wrap_i64]; omega
            refine rg_in (Below X.heap.size X) (by kernel_rfl) (by kernel_rfl) (Below.refl _ _).drew ?_
            refine rq_start ?_
            refine rq_as (b := actJ p o s q gg oo n c (k' + 1) (fn y') u5 u37 u38 u19 u20 u21 u22 u23 u24 u25 u26 u27 u28 u29 u30 u31 u32 u33 u34 u35 u36) (by kernel_rfl) ?_
            refine rq_row 32 (.tmp 7) q 8 (fn y') 32 _ (by kernel_rfl) rfl (by kernel_rfl) (fun w hc => hq.below hc hq.lt) Try.underlying32 rfl imuSize ?_
            refine rq_as (b := actJ p o s q gg oo n c (k' + 1) (fn y') u5 u37 u38 (.agg (rowA 8 (fn y'))) u20 u21 u22 u23 u24 u25 u26 u27 u28 u29 u30 u31 u32 u33 u34 u35 u36) (by kernel_rfl) ?_
            refine rq_call (.bool true) 12 #[.agg (rowA 8 (fn y'))] (by kernel_rfl) (fun _ => by kernel_rfl) (fun w hc => (goodr (fn y') true w hok).mono fun e w' ⟨he, hb⟩ => ⟨he, hc.trans (hb.mono hc.size)⟩) ?_
            refine rq_as (b := actJ p o s q gg oo n c (k' + 1) (fn y') u5 u37 u38 (.agg (rowA 8 (fn y'))) (.bool true) u21 u22 u23 u24 u25 u26 u27 u28 u29 u30 u31 u32 u33 u34 u35 u36) (by kernel_rfl) ?_
            refine rq_pure (.bool false) (by kernel_rfl) (fun _ => by kernel_rfl) ?_
            refine rq_as (b := actJ p o s q gg oo n c (k' + 1) (fn y') u5 u37 u38 (.agg (rowA 8 (fn y'))) (.bool true) (.bool false) u22 u23 u24 u25 u26 u27 u28 u29 u30 u31 u32 u33 u34 u35 u36) (by kernel_rfl) ?_
            refine rq_pure (.bool false) (by kernel_rfl) (fun _ => by kernel_rfl) ?_
            refine rq_as (b := actJ p o s q gg oo n c (k' + 1) (fn y') u5 u37 u38 (.agg (rowA 8 (fn y'))) (.bool true) (.bool false) (.bool false) u23 u24 u25 u26 u27 u28 u29 u30 u31 u32 u33 u34 u35 u36) (by kernel_rfl) ?_
            refine rq_pure (.int .i64 (k' + 1 : Nat)) (by kernel_rfl) (fun _ => by kernel_rfl) ?_
            refine rq_as (b := actJ p o s q gg oo n c (k' + 1) (fn y') u5 u37 u38 (.agg (rowA 8 (fn y'))) (.bool true) (.bool false) (.bool false) (.int .i64 (k' + 1 : Nat)) u24 u25 u26 u27 u28 u29 u30 u31 u32 u33 u34 u35 u36) (by kernel_rfl) ?_
            refine rq_in (.bool true) (by kernel_rfl) (fun w hc => by unfold actJ; go_simp) ?_
            refine rq_as (b := actJ p o s q gg oo n c (k' + 1) (fn y') u5 u37 u38 (.agg (rowA 8 (fn y'))) (.bool true) (.bool false) (.bool false) (.int .i64 (k' + 1 : Nat)) (.bool true) u25 u26 u27 u28 u29 u30 u31 u32 u33 u34 u35 u36) (by kernel_rfl) ?_
            refine rq_pure (.bool true) (by kernel_rfl) (fun _ => by kernel_rfl) ?_
            refine rq_as (b := actJ p o s q gg oo n c (k' + 1) (fn y') u5 u37 u38 (.agg (rowA 8 (fn y'))) (.bool true) (.bool false) (.bool false) (.int .i64 (k' + 1 : Nat)) (.bool true) (.bool true) u26 u27 u28 u29 u30 u31 u32 u33 u34 u35 u36) (by kernel_rfl) ?_
            refine rq_pure (.pointer (some ⟨q, 0, none⟩)) (by kernel_rfl) (fun _ => by kernel_rfl) ?_
            refine rq_as (b := actJ p o s q gg oo n c (k' + 1) (fn y') u5 u37 u38 (.agg (rowA 8 (fn y'))) (.bool true) (.bool false) (.bool false) (.int .i64 (k' + 1 : Nat)) (.bool true) (.bool true) (.pointer (some ⟨q, 0, none⟩)) u27 u28 u29 u30 u31 u32 u33 u34 u35 u36) (by kernel_rfl) ?_
            refine rq_i64 (.tmp 26) q 0 (fn y' 0) (by kernel_rfl) rfl (by kernel_rfl) (fun w hc => (hq.below hc hq.lt).cell 0) ?_
            refine rq_as (b := actJ p o s q gg oo n c (k' + 1) (fn y') u5 u37 u38 (.agg (rowA 8 (fn y'))) (.bool true) (.bool false) (.bool false) (.int .i64 (k' + 1 : Nat)) (.bool true) (.bool true) (.pointer (some ⟨q, 0, none⟩)) (.int .i64 (fn y' 0)) u28 u29 u30 u31 u32 u33 u34 u35 u36) (by kernel_rfl) ?_
            refine rq_pure (.slice (some ⟨gg, oo, none⟩) n c) (by kernel_rfl) (fun _ => by kernel_rfl) ?_
            refine rq_as (b := actJ p o s q gg oo n c (k' + 1) (fn y') u5 u37 u38 (.agg (rowA 8 (fn y'))) (.bool true) (.bool false) (.bool false) (.int .i64 (k' + 1 : Nat)) (.bool true) (.bool true) (.pointer (some ⟨q, 0, none⟩)) (.int .i64 (fn y' 0)) (.slice (some ⟨gg, oo, none⟩) n c) u29 u30 u31 u32 u33 u34 u35 u36) (by kernel_rfl) ?_
            refine rq_pure (.int .i64 (k' + 1 : Nat)) (by kernel_rfl) (fun _ => by kernel_rfl) ?_
            refine rq_as (b := actJ p o s q gg oo n c (k' + 1) (fn y') u5 u37 u38 (.agg (rowA 8 (fn y'))) (.bool true) (.bool false) (.bool false) (.int .i64 (k' + 1 : Nat)) (.bool true) (.bool true) (.pointer (some ⟨q, 0, none⟩)) (.int .i64 (fn y' 0)) (.slice (some ⟨gg, oo, none⟩) n c) (.int .i64 (k' + 1 : Nat)) u30 u31 u32 u33 u34 u35 u36) (by kernel_rfl) ?_
            refine rq_in (.int .i64 k') (by kernel_rfl) (fun w hc => by unfold actJ; go_simp) ?_
            refine rq_as (b := actJ p o s q gg oo n c (k' + 1) (fn y') u5 u37 u38 (.agg (rowA 8 (fn y'))) (.bool true) (.bool false) (.bool false) (.int .i64 (k' + 1 : Nat)) (.bool true) (.bool true) (.pointer (some ⟨q, 0, none⟩)) (.int .i64 (fn y' 0)) (.slice (some ⟨gg, oo, none⟩) n c) (.int .i64 (k' + 1 : Nat)) (.int .i64 k') u31 u32 u33 u34 u35 u36) (by kernel_rfl) ?_
            refine rq_in (.pointer (some ⟨gg, oo + k' * 8, none⟩)) (by kernel_rfl) (fun w hc => by unfold actJ; go_simp) ?_
            refine rq_as (b := actJ p o s q gg oo n c (k' + 1) (fn y') u5 u37 u38 (.agg (rowA 8 (fn y'))) (.bool true) (.bool false) (.bool false) (.int .i64 (k' + 1 : Nat)) (.bool true) (.bool true) (.pointer (some ⟨q, 0, none⟩)) (.int .i64 (fn y' 0)) (.slice (some ⟨gg, oo, none⟩) n c) (.int .i64 (k' + 1 : Nat)) (.int .i64 k') (.pointer (some ⟨gg, oo + k' * 8, none⟩)) u32 u33 u34 u35 u36) (by kernel_rfl) ?_
            refine rq_in (.pointer (some ⟨gg, oo + k' * 8, none⟩)) (by kernel_rfl) (fun w hc => by unfold actJ; go_simp) ?_
            refine rq_as (b := actJ p o s q gg oo n c (k' + 1) (fn y') u5 u37 u38 (.agg (rowA 8 (fn y'))) (.bool true) (.bool false) (.bool false) (.int .i64 (k' + 1 : Nat)) (.bool true) (.bool true) (.pointer (some ⟨q, 0, none⟩)) (.int .i64 (fn y' 0)) (.slice (some ⟨gg, oo, none⟩) n c) (.int .i64 (k' + 1 : Nat)) (.int .i64 k') (.pointer (some ⟨gg, oo + k' * 8, none⟩)) (.pointer (some ⟨gg, oo + k' * 8, none⟩)) u33 u34 u35 u36) (by kernel_rfl) ?_
            refine rq_i64 (.tmp 32) gg (oo + k' * 8) (fn y1 0) (by kernel_rfl) rfl (by kernel_rfl) (fun w hc => ((hI1.below hc hgx).at_ 0 (by omega))) ?_
            refine rq_as (b := actJ p o s q gg oo n c (k' + 1) (fn y') u5 u37 u38 (.agg (rowA 8 (fn y'))) (.bool true) (.bool false) (.bool false) (.int .i64 (k' + 1 : Nat)) (.bool true) (.bool true) (.pointer (some ⟨q, 0, none⟩)) (.int .i64 (fn y' 0)) (.slice (some ⟨gg, oo, none⟩) n c) (.int .i64 (k' + 1 : Nat)) (.int .i64 k') (.pointer (some ⟨gg, oo + k' * 8, none⟩)) (.pointer (some ⟨gg, oo + k' * 8, none⟩)) (.int .i64 (fn y1 0)) u34 u35 u36) (by kernel_rfl) ?_
            refine rq_pure (.bool (decide (fn y' 0 ≤ fn y1 0))) (by kernel_rfl) (fun _ => by kernel_rfl) ?_
            refine rq_as (b := actJ p o s q gg oo n c (k' + 1) (fn y') u5 u37 u38 (.agg (rowA 8 (fn y'))) (.bool true) (.bool false) (.bool false) (.int .i64 (k' + 1 : Nat)) (.bool true) (.bool true) (.pointer (some ⟨q, 0, none⟩)) (.int .i64 (fn y' 0)) (.slice (some ⟨gg, oo, none⟩) n c) (.int .i64 (k' + 1 : Nat)) (.int .i64 k') (.pointer (some ⟨gg, oo + k' * 8, none⟩)) (.pointer (some ⟨gg, oo + k' * 8, none⟩)) (.int .i64 (fn y1 0)) (.bool (decide (fn y' 0 ≤ fn y1 0))) u35 u36) (by kernel_rfl) ?_
            refine rq_pure (.bool (decide (fn y' 0 ≤ fn y1 0))) (by kernel_rfl) (fun _ => by kernel_rfl) ?_
            refine rq_as (b := actJ p o s q gg oo n c (k' + 1) (fn y') u5 u37 u38 (.agg (rowA 8 (fn y'))) (.bool true) (.bool false) (.bool false) (.int .i64 (k' + 1 : Nat)) (.bool true) (.bool true) (.pointer (some ⟨q, 0, none⟩)) (.int .i64 (fn y' 0)) (.slice (some ⟨gg, oo, none⟩) n c) (.int .i64 (k' + 1 : Nat)) (.int .i64 k') (.pointer (some ⟨gg, oo + k' * 8, none⟩)) (.pointer (some ⟨gg, oo + k' * 8, none⟩)) (.int .i64 (fn y1 0)) (.bool (decide (fn y' 0 ≤ fn y1 0))) (.bool (decide (fn y' 0 ≤ fn y1 0))) u36) (by kernel_rfl) ?_
            refine rq_pure (.bool (decide (fn y' 0 ≤ fn y1 0))) (by kernel_rfl) (fun _ => by kernel_rfl) ?_
            refine rq_as (b := actJ p o s q gg oo n c (k' + 1) (fn y') u5 u37 u38 (.agg (rowA 8 (fn y'))) (.bool true) (.bool false) (.bool false) (.int .i64 (k' + 1 : Nat)) (.bool true) (.bool true) (.pointer (some ⟨q, 0, none⟩)) (.int .i64 (fn y' 0)) (.slice (some ⟨gg, oo, none⟩) n c) (.int .i64 (k' + 1 : Nat)) (.int .i64 k') (.pointer (some ⟨gg, oo + k' * 8, none⟩)) (.pointer (some ⟨gg, oo + k' * 8, none⟩)) (.int .i64 (fn y1 0)) (.bool (decide (fn y' 0 ≤ fn y1 0))) (.bool (decide (fn y' 0 ≤ fn y1 0))) (.bool (decide (fn y' 0 ≤ fn y1 0)))) (by kernel_rfl) ?_
            refine rq_nil fun w1 hb => ?_
            unfold actJ
            clear hw1 hww hI1
            by_cases hle : fn y' 0 ≤ fn y1 0
            · have r1 := RX.below hb RX.lt
              have F1 := FX.then hb
              clear hb hq RX FX hIX
              go_wp2_with ((with_reducible refine row_store 32 (.tmp 4) (.tmp 37) ?_ ?_ s 8 (fun _ => 0) (fun _ => 0) 32 ?_ ?_ r1 imuSize ?_); rfl; rfl; rfl; rfl)
              refine bodyPost_ret (v := .tuple #[.agg (rowA 8 fun _ => 0), .int .i64 1]) (results_row1 rfl _ _ s 8 _ _ _ rfl r1.setRow Try.underlying32 rfl imuSize rfl) rfl ⟨BAD.out (.inl (joinB_false _ (k' + 1) (by have := HLen.out; omega) (by unfold joinB; rw [← HY.out, Nat.add_sub_cancel, ← hy1, decide_eq_false (by omega), show Nat.beq (k' + 1) 0 = false from rfl]; simp))), F1.row (by omega) _⟩
            · have r1 := RX.below hb RX.lt
              have F1 := FX.then hb
              clear hb hq RX FX hIX
              have hnext := Lib.hid (show joinB l (k' + 1 + 1) = true by unfold joinB; rw [← HY.out, Nat.add_sub_cancel, ← hy1, hok, JB.out, decide_eq_true (by omega)]; simp)
              go_wp2_with fail
              go_roundw
              case rel => exact ⟨k' + 1 + 1, by go_num, by omega, hnext.out, Lib.hid F1, Lib.hid r1⟩
              case measure => simp [intOf]; omega
      · obtain rfl : k = n := by omega
        have hok : joinB l l.length = true ∧ l.length ≠ 0 := by rw [HLen.out]; exact ⟨JB.out, h0⟩
        have hR' := hR.out
        have hm : ∀ y ∈ l, Mod 1 (fn y) := fun y hy => by
          obtain ⟨j, hj, rfl⟩ := List.getElem_of_mem hy
          have := joinB_mod _ hok.1 j hj
          rwa [List.getD_eq_getElem?_getD, List.getElem?_eq_getElem hj, Option.getD_some] at this
        have GOOD := Lib.hid (show Ending.returned (.tuple #[.agg (rowA 8 (foldI (fun _ => 0) l)), .int .i64 0]) = .returned (.tuple #[.agg (rowA 8 (joinR l)), .int .i64 (joinE l)]) by
          rw [rowA_congr (g := joinR l) fun j _ => by unfold joinR; rw [if_pos hok], show joinE l = 0 by unfold joinE; rw [if_pos hok]])
        have HM := Lib.hid hm
        clear hm hok h0E
        have hargs : Arg 8 wr ad k l := by
          obtain ⟨h1, h2, h3, h4⟩ := HL.out
          refine ⟨h1, h2, h3, h4.imp id ?_⟩
          rintro ⟨g, o', e, hg, hi⟩
          exact ⟨g, o', e, Nat.lt_of_lt_of_le hg hF.out.size, hi.flag hg (hp g o' e) hF.out⟩
        have HA := Lib.hid hargs
        clear hargs
        have HF := hF
        clear hF hR
        go_wp2_with fail
        refine (sum_any p o ad k c l h _ (HF.out.fl f) HA.out hp hn HM.out).mono ?_
        rintro e w7 ⟨rfl, k7⟩
        have r7 := hR'.flag (by have := f.lt; omega) k7
        have K7 := Lib.hid (HF.out.trans k7)
        clear k7 hR'
        go_wp2_with ((with_reducible refine row_store 32 (.tmp 4) (.tmp 41) ?_ ?_ s 8 (foldI (fun _ => 0) l) (fun _ => 0) 32 ?_ ?_ r7 imuSize ?_); rfl; rfl; rfl; rfl)
        refine bodyPost_ret (v := .tuple #[.agg (rowA 8 (foldI (fun _ => 0) l)), .int .i64 0]) (results_row1 rfl _ _ s 8 _ _ _ rfl r7.setRow Try.underlying32 rfl imuSize rfl) rfl ⟨GOOD.out, K7.out.row (by omega) _⟩
end Go.Proofs.Ytdndomknjefgkaa.Rg
