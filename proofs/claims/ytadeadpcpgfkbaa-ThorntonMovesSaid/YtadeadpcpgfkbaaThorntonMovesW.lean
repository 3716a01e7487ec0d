/- The walk of ThorntonMoves. -/
import Derived.Test.YtadeadpcpgfkbaaThoAk
import Derived.Test.YtadeadpcpgfkbaaLwA
import Derived.Test.YtadeadpcpgfkbaaBlkA
import Derived.Test.YtadeadpcpgfkbaaErrR
namespace Go.Proofs.Ytadeadpcpgfkbaa.thorntonMoves
open Go.RowKit
theorem mvin {F M : Nat → Int} {a b dt : Int} (hF : F = upd (upd (newF (fun _ => 0) 0) (276 + 4) a) (276 + 7) b) (hM : M = upd oneG 172 dt) (ha : 1073741824 ≤ a ∧ a ≤ 281474976710656) (hb : 1073741824 ≤ b ∧ b ≤ 281474976710656) (ht : 0 ≤ dt ∧ dt ≤ 1073741824) :
    EA.MvIn F M (fun _ => 0) a b dt := by
  subst hF hM
  refine ⟨fun k hk => ?_, fun k hk => ?_, fun i t hi hti => ?_, fun _ _ => rfl, ha, hb, ht⟩
  · unfold upd
    rw [if_neg (by omega), if_neg (by omega)]
    unfold newF
    rw [if_pos hk]
  · unfold upd
    by_cases h7 : k = 7
    · subst h7; rfl
    · by_cases h4 : k = 4
      · subst h4; rfl
      · rw [if_neg (by omega), if_neg (by omega), if_neg h4, if_neg h7]
        unfold newF
        rw [if_neg (by omega), if_neg (by omega)]
  · unfold upd
    by_cases e : i = 7 ∧ t = 4
    · obtain ⟨rfl, rfl⟩ := e
      rfl
    · rw [if_neg (by omega), if_neg e]
      unfold oneG
      by_cases h : t = i
      · rw [if_pos h, if_pos (by omega)]
      · rw [if_neg h, if_neg (by omega)]
abbrev Good (a b dt : Int) (w : World) : Prop :=
  Calls Try.prog 9 #[.int .i64 a, .int .i64 b, .int .i64 dt] w fun e w' => e = .returned (.bool true) ∧ Below w.heap.size w w'
set_option maxRecDepth 100000 in
set_option maxHeartbeats 8000000 in
theorem walk (a : Int) (_ : -9223372036854775808 ≤ a ∧ a ≤ 9223372036854775807) (b : Int) (_ : -9223372036854775808 ≤ b ∧ b ≤ 9223372036854775807) (dt : Int) (_ : -9223372036854775808 ≤ dt ∧ dt ≤ 9223372036854775807) (w : World) : Good a b dt w := by
  unfold Good
  go_enter Try.func9, Try.ntmps9
  go_wp2_with fail
  refine (awake10_any w).mono ?_
  rintro e w1 ⟨rfl, hb⟩
  by_cases h0 : a < 1073741824
  · go_wp2_with fail
    go_ret
    exact ⟨rfl, hb⟩
  by_cases h1 : (281474976710656 : Int) < a
  · go_wp2_with fail
    go_ret
    exact ⟨rfl, hb⟩
  by_cases h2 : b < 1073741824
  · go_wp2_with fail
    go_ret
    exact ⟨rfl, hb⟩
  by_cases h3 : (281474976710656 : Int) < b
  · go_wp2_with fail
    go_ret
    exact ⟨rfl, hb⟩
  by_cases h4 : dt < 0
  · go_wp2_with fail
    go_ret
    exact ⟨rfl, hb⟩
  by_cases h5 : (1073741824 : Int) < dt
  · go_wp2_with fail
    go_ret
    exact ⟨rfl, hb⟩
  go_upto_region 6 with (fail)
  have L0 : Lw w w1.heap.size false [] (w1.alloc (.cells #[.bool false] 25)) := ⟨Fl.made w1 25 false, hb.alloc hb.size _, hb.size, fun x hx => absurd hx (List.not_mem_nil)⟩
  clear hb
  generalize World.alloc w1 _ = W0 at *
  generalize w1.heap.size = q at *
  go_wp2_with fail
  refine (new_any q 0 none 0 0 (fun _ => 0) _ _ L0.fl (fun h => absurd h (by omega)) (by omega)).mono ?_
  rintro e w2 ⟨rfl, k2⟩
  have L2 := (L0.flag k2).hit (show (false || newH (fun _ => (0 : Int)) 0 24) = false by decide)
  clear L0 k2
  have hZ : ∀ z : Array Value, z = rowA 300 (fun _ => 0) → Blk (w2.alloc (.cells z 29)) w2.heap.size (rowA 300 fun _ => 0) 29 := by rintro z rfl; exact (L2.made 300 (fun _ => 0) 29).get (.head _)
  have L3 := (L2.made 300 (fun _ => 0) 29).lay L2.newer (newF (fun _ => 0) 0)
  have M2 := L2.newer
  clear L2
  go_upto_region 7 with ((with_reducible refine row_store 29 (.tmp 8) (.tmp 42) ?_ ?_ w2.heap.size 300 (newF (fun _ => 0) 0) (fun _ => 0) 29 ?_ ?_ (hZ _ zeroCov) covSize ?_); rfl; rfl; rfl; rfl)
  rw [zeroCov]
  clear hZ
  generalize World.setRow _ _ _ = w3 at *
  generalize w2.heap.size = Pb at *
  have L4 := L3.put M2 (k := 276 + 4) (by omega) a
  have L5 := L4.put M2 (k := 276 + 7) (by omega) b
  have hc4 := row_at (L3.get (.head _)) (k := 276 + 4) (by omega) rfl
  have hf4 := (L3.get (.head _)).free (276 + 4)
  have hc7 := row_at (L4.get (.head _)) (k := 276 + 7) (by omega) rfl
  have hf7 := (L4.get (.head _)).free (276 + 7)
  have HL := Lib.hid L5
  clear L3 L4 L5
  go_upto_region 9 with (fail)
  clear hc4 hf4 hc7 hf7
  generalize World.setCell _ _ _ = w5 at *
  go_wp2_with fail
  refine (one_any w5).mono ?_
  rintro e w6 ⟨rfl, k6⟩
  have L6 := HL.out.call k6
  clear HL k6
  have hZ : ∀ z : Array Value, z = rowA 576 (fun _ => 0) → Blk (w6.alloc (.cells z 61)) w6.heap.size (rowA 576 fun _ => 0) 61 := by rintro z rfl; exact (L6.made 576 (fun _ => 0) 61).get (.head _)
  have L7 := (L6.made 576 (fun _ => 0) 61).lay L6.newer oneG
  have M6 := L6.newer
  clear L6
  go_upto_region 10 with ((with_reducible refine row_store 61 (.tmp 9) (.tmp 49) ?_ ?_ w6.heap.size 576 oneG (fun _ => 0) 61 ?_ ?_ (hZ _ zeroMat) matSize ?_); rfl; rfl; rfl; rfl)
  rw [zeroMat]
  clear hZ
  generalize World.setRow _ _ _ = w7 at *
  generalize w6.heap.size = G at *
  have L8 := L7.put M6 (k := 172) (by omega) dt
  have hc := row_at (L7.get (.head _)) (k := 172) (by omega) (show oneG 172 = 0 by decide)
  have hf := (L7.get (.head _)).free 172
  have HL := Lib.hid L8
  clear L7 L8
  go_upto_region 11 with (fail)
  clear hc hf
  generalize World.setCell _ _ _ = w8 at *
  obtain ⟨F, hF⟩ : ∃ F, F = upd (upd (newF (fun _ => 0) 0) (276 + 4) a) (276 + 7) b := ⟨_, rfl⟩
  obtain ⟨M, hM⟩ : ∃ M, M = upd oneG 172 dt := ⟨_, rfl⟩
  rw [← hF, ← hM] at HL
  have HF := Lib.hid (And.intro hF hM)
  clear M2 M6 hF hM
  have hG := HL.out.get (.head _)
  have hP := HL.out.get (.tail _ (.head _))
  go_wp2_with (first
    | ((with_reducible refine row_load 29 (.tmp 8) ?_ ?_ Pb 300 F 29 ?_ hP _ Try.underlying29 ?_ covSize ?_); rfl; rfl; rfl; rfl)
    | ((with_reducible refine row_load 61 (.tmp 9) ?_ ?_ G 576 M 61 ?_ hG _ Try.underlying61 ?_ matSize ?_); rfl; rfl; rfl; rfl)
    | (refine build_none ?_ 27 ?_ 24 (fun _ => 0) built24 ?_; rfl; rfl))
  clear hG hP
  refine (step_any q 0 F M (fun _ => 0) _ _ HL.out.fl).mono ?_
  rintro e w9 ⟨rfl, k9⟩
  obtain ⟨⟨m1, m2, m3, m4, m5, m6⟩, n1, n2, n3, n4, n5⟩ := EA.moves (mvin HF.out.1 HF.out.2 ⟨h0, h1⟩ ⟨h2, h3⟩ ⟨h4, h5⟩)
  have L9 := (HL.out.flag k9).hit (by rw [m1]; rfl : (false || stepH F M (fun _ => 0)) = false)
  clear HL k9 m1
  generalize stepF F M (fun _ => 0) = A at *
  clear HF
  have hZ : ∀ z : Array Value, z = rowA 300 (fun _ => 0) → Blk (w9.alloc (.cells z 29)) w9.heap.size (rowA 300 fun _ => 0) 29 := by rintro z rfl; exact (L9.made 300 (fun _ => 0) 29).get (.head _)
  have L10 := (L9.made 300 (fun _ => 0) 29).lay L9.newer A
  clear L9
  go_upto_region 12 with ((with_reducible refine row_store 29 (.tmp 10) (.tmp 57) ?_ ?_ w9.heap.size 300 A (fun _ => 0) 29 ?_ ?_ (hZ _ zeroCov) covSize ?_); rfl; rfl; rfl; rfl)
  rw [zeroCov]
  clear hZ
  generalize World.setRow _ _ _ = w10 at *
  generalize w9.heap.size = Ab at *
  have HL := Lib.hid L10
  clear L10
  have hA := HL.out.get (.head _)
  go_wp2_with ((with_reducible refine row_load 29 (.tmp 10) ?_ ?_ Ab 300 A 29 ?_ hA _ Try.underlying29 ?_ covSize ?_); rfl; rfl; rfl; rfl)
  clear hA
  refine (at_any q 0 A 7 7 _ _ HL.out.fl).mono ?_
  rintro e w11 ⟨rfl, k⟩
  have L := (HL.out.flag k).hit (by rw [m2]; rfl : (false || _) = false)
  clear HL k
  have HL := Lib.hid L
  clear L
  obtain ⟨x, hx⟩ : ∃ x, x = atV A 7 7 := ⟨_, rfl⟩
  obtain ⟨y, hy⟩ : ∃ y, y = atV A 4 7 := ⟨_, rfl⟩
  obtain ⟨z, hz⟩ : ∃ z, z = atV A 4 4 := ⟨_, rfl⟩
  obtain ⟨m, hm⟩ : ∃ m, m = mulv a dt := ⟨_, rfl⟩
  obtain ⟨s, hs⟩ : ∃ s, s = mulv m dt := ⟨_, rfl⟩
  rw [← hm] at m6 n1 n2 n4 n5
  rw [← hs, ← hx] at n1
  rw [← hy] at n2
  rw [← hz] at n3
  rw [← hs] at n5
  rw [← hx]
  have HX := Lib.hid (And.intro hy (And.intro hz (And.intro hm hs)))
  have e1 : wrap64 (x - b) = x - b := wrap64_in _ (by omega) (by omega)
  have e2 : wrap64 (x - b - s) = x - b - s := wrap64_in _ (by omega) (by omega)
  have e3 : wrap64 (y - m) = y - m := wrap64_in _ (by omega) (by omega)
  have e4 : wrap64 (z - a) = z - a := wrap64_in _ (by omega) (by omega)
  have HN := Lib.hid (And.intro n1 (And.intro n2 n3))
  clear hx hy hz hm hs n1 n2 n3 n4 n5
  go_wp2_with fail
  refine (mul_mulv q 0 a dt _ _ HL.out.fl).mono ?_
  rintro e w12 ⟨rfl, k⟩
  have L := (HL.out.flag k).hit (by rw [m5]; rfl : (false || _) = false)
  clear HL k
  have HL := Lib.hid L
  clear L
  rw [← HX.out.2.2.1]
  go_wp2_with fail
  refine (mul_mulv q 0 m dt _ _ HL.out.fl).mono ?_
  rintro e w13 ⟨rfl, k⟩
  have L := (HL.out.flag k).hit (by rw [m6]; rfl : (false || _) = false)
  clear HL k
  have HL := Lib.hid L
  clear L
  rw [← HX.out.2.2.2]
  go_upto_region 13 with (fail)
  have hA := HL.out.get (.head _)
  go_wp2_with ((with_reducible refine row_load 29 (.tmp 10) ?_ ?_ Ab 300 A 29 ?_ hA _ Try.underlying29 ?_ covSize ?_); rfl; rfl; rfl; rfl)
  clear hA
  refine (at_any q 0 A 4 7 _ _ HL.out.fl).mono ?_
  rintro e w14 ⟨rfl, k⟩
  have L := (HL.out.flag k).hit (by rw [m3]; rfl : (false || _) = false)
  clear HL k
  have HL := Lib.hid L
  clear L
  rw [← HX.out.1]
  go_wp2_with fail
  refine (mul_mulv q 0 a dt _ _ HL.out.fl).mono ?_
  rintro e w15 ⟨rfl, k⟩
  have L := (HL.out.flag k).hit (by rw [m5]; rfl : (false || _) = false)
  clear HL k
  have HL := Lib.hid L
  clear L
  rw [← HX.out.2.2.1]
  go_upto_region 14 with (fail)
  have hA := HL.out.get (.head _)
  go_wp2_with ((with_reducible refine row_load 29 (.tmp 10) ?_ ?_ Ab 300 A 29 ?_ hA _ Try.underlying29 ?_ covSize ?_); rfl; rfl; rfl; rfl)
  clear hA
  refine (at_any q 0 A 4 4 _ _ HL.out.fl).mono ?_
  rintro e w16 ⟨rfl, k⟩
  have L := (HL.out.flag k).hit (by rw [m4]; rfl : (false || _) = false)
  clear HL k
  have HL := Lib.hid L
  clear L
  rw [← HX.out.2.1]
  obtain ⟨⟨c1, c2⟩, ⟨c3, c4⟩, c5, c6⟩ := HN.out
  clear HN HX m2 m3 m4 m5 m6
  have hc := HL.out.fl.cell
  have hbe := HL.out.be
  clear HL
  go_upto_region 15 with (fail)
  generalize x - b - s = X at *
  generalize y - m = Y at *
  generalize z - a = Z at *
  clear e1 e2 e3 e4 h0 h1 h2 h3 h4 h5
  have d1 : ¬ (4194304 : Int) < X := by omega
  have d2 : ¬ X < (-4194304 : Int) := by omega
  have d3 : ¬ (4194304 : Int) < Y := by omega
  have d4 : ¬ Y < (-4194304 : Int) := by omega
  have d5 : ¬ (4194304 : Int) < Z := by omega
  have d6 : ¬ Z < (-4194304 : Int) := by omega
  go_wp2_with fail
  go_ret
  exact ⟨rfl, hbe⟩
end Go.Proofs.Ytadeadpcpgfkbaa.thorntonMoves
