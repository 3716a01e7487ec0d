/- Package block: variances that grow. -/
import Derived.Test.YtfkeljolpcbbkaaBlkC
import Derived.Test.YtfkeljolpcbbkaaBlkD
namespace Go.Proofs.Ytfkeljolpcbbkaa
open Go.RowKit

def actG (p o s : Nat) (f : Nat → Int) (m : Int) (pa : Option Addr) (k c : Nat) (u10 u11 u12 u17 u18 u19 u20 u21 u22 u23 u24 u25 u26 u27 u28 : Value) (a29 a30 a31 a32 : Value) : Act := ⟨⟨.pointer (some ⟨p, o, none⟩) :: .agg (rowA 300 f) :: .int .i64 m :: .slice pa k c :: undef :: .pointer (some ⟨s, 0, none⟩) :: undef :: undef :: .pointer (some ⟨s + 1, 0, none⟩) :: .pointer (some ⟨s + 2, 0, none⟩) :: u10 :: u11 :: u12 :: .slice pa k c :: .int .i64 (k : Int) :: .int .i64 (k : Int) :: .bool false :: u17 :: u18 :: u19 :: u20 :: u21 :: u22 :: u23 :: u24 :: u25 :: u26 :: u27 :: u28 :: a29 :: a30 :: a31 :: a32 :: []⟩, []⟩
set_option maxRecDepth 100000 in
set_option maxHeartbeats 8000000 in
theorem grow_any (p o : Nat) (f : Nat → Int) (m : Int) (pa : Option Addr) (n c : Nat) (l : Nat → Int) (h : Bool) (w : World) (fl : Fl p o h w) (hn : n ≤ 9223372036854775807) (hl : SlP w p pa n l) :
    Calls Try.prog 108 #[.pointer (some ⟨p, o, none⟩), .agg (rowA 300 f), .int .i64 m, .slice pa n c] w fun e w' => e = .returned (.agg (rowA 300 (growF f m l n))) ∧ FlW p o (h || growH f m l n) w w' := by
  have hpw := fl.lt
  go_enter Try.func108, Try.ntmps108
  go_upto_region 2 with (fail)
  rw [zeroCov, zero24]
  generalize hW : World.alloc (World.alloc (World.alloc w _) _) _ = X
  have hs : Fr w p o h [(w.heap.size, 300, f, 93), (w.heap.size + 1, 300, fun _ => 0, 93)] X := by
    subst hW
    refine ⟨(((FlW.refl fl).alloc _).alloc _).alloc _, fun x hx => ?_⟩
    simp only [List.mem_cons, List.not_mem_nil, or_false] at hx
    rcases hx with rfl | rfl
    · exact ⟨Nat.le_refl _, ((Blk.made _ _ _ rfl).alloc _).alloc _⟩
    · exact ⟨Nat.le_succ _, (Blk.made _ _ _ (by simp)).alloc _⟩
  have fQ : Fresh2 w [(w.heap.size, 300, f, 93), (w.heap.size + 1, 300, fun _ => 0, 93)] (w.heap.size + 2) 24 (grQ m l 0) 91 X := by
    subst hW
    refine ⟨by omega, fun x hx => ?_, Blk.made _ _ _ (by simp)⟩
    simp only [List.mem_cons, List.not_mem_nil, or_false] at hx
    rcases hx with rfl | rfl <;> (dsimp only; omega)
  clear hW
  go_wp2_with fail
  go_loopw [15] (fun i' wr => ∃ k : Nat, k ≤ n ∧ i' = .int .i64 k ∧ Fr w p o h [(w.heap.size, 300, f, 93), (w.heap.size + 1, 300, fun _ => 0, 93)] wr ∧ Fresh2 w [(w.heap.size, 300, f, 93), (w.heap.size + 1, 300, fun _ => 0, 93)] (w.heap.size + 2) 24 (grQ m l k) 91 wr) (fun i' _ => n - (intOf i').toNat)
  case atStart => exact ⟨0, by omega, rfl, hs, fQ⟩
  case round =>
    clear hs fQ
    obtain ⟨k, hk, rfl, hs, fQ⟩ := hrel
    by_cases hlt : k < n
    · obtain ⟨b, ob, rfl, hbp, hbw, hI⟩ := hl (by omega)
      clear hl
      have hltI : (k : Int) < (n : Int) := by omega
      have hk0 : (0 : Int) ≤ (k : Int) := by omega
      have c1 := (hs.F.cell (b := b) (i := ob + k) hbw (.inl hbp)).trans (hI.at_ k hlt)
      have HN := Lib.hid (show grQ m l (k + 1) = bif inN (wrap64 (m + (k : Int))) then upd (grQ m l k) (wrap64 (m + (k : Int))).toNat (l k) else grQ m l k from rfl)
      clear hI
      go_upto_region 6 with (fail)
      clear c1
      generalize wrap64 (m + (k : Int)) = x at *
      generalize grQ m l k = q at *
      go_wp2_with fail
      cases hi : inN x
      · refine (bexists_is x false hi _).mono ?_
        rintro e w3 ⟨rfl, rfl⟩
        have HN2 := Lib.hid (show grQ m l (k + 1) = q by rw [HN.out, hi]; rfl)
        have HS := Lib.hid (And.intro hs fQ)
        clear HN hi hs fQ
        go_wp2_with fail
        go_roundw
        case rel => exact ⟨k + 1, by omega, by go_num, HS.out.1, by rw [HN2.out]; exact HS.out.2⟩
        case measure => simp [intOf]; omega
      · refine (bexists_is x true hi _).mono ?_
        rintro e w3 ⟨rfl, rfl⟩
        have hx := (inN_iff x).1 hi
        obtain ⟨i, rfl⟩ := Int.eq_ofNat_of_zero_le hx.1
        have hi24 : i < 24 := by omega
        have hiI : (i : Int) < 24 := by omega
        have hi0 : (0 : Int) ≤ (i : Int) := by omega
        have HN2 := Lib.hid (show grQ m l (k + 1) = upd q i (l k) by rw [HN.out, hi, cond_true, Int.toNat_natCast])
        clear HN hi hx
        have hc := fQ.blk.cell i
        rw [rowA_get _ hi24] at hc
        have hf := fQ.blk.free i
        have HS := Lib.hid (And.intro (hs.other (i := i) fQ.lo fQ.gt (.int .i64 (l k))) (fQ.put hi24 (l k)))
        clear hs fQ
        go_wp2_with fail
        go_roundw
        case rel => exact ⟨k + 1, by omega, by go_num, HS.out.1, by rw [HN2.out]; exact HS.out.2⟩
        case measure => simp [intOf]; omega
    · obtain rfl : k = n := by omega
      clear hlt hk hl
      have HR := Lib.hid (show growF f m l k = stepF f oneG (grQ m l k) ∧ (h || growH f m l k) = (h || stepH f oneG (grQ m l k)) from ⟨rfl, rfl⟩)
      generalize grQ m l k = q at *
      have hlI : ¬ (k : Int) < (k : Int) := by omega
      have fR : Fresh2 w [(w.heap.size, 300, f, 93), (w.heap.size + 2, 24, q, 91)] (w.heap.size + 1) 300 (fun _ => 0) 93 wr := ⟨by omega, fun x hx => by
        simp only [List.mem_cons, List.not_mem_nil, or_false] at hx
        rcases hx with rfl | rfl <;> (dsimp only; omega), hs.get (.tail _ (.head _))⟩
      have hs : Fr w p o h [(w.heap.size, 300, f, 93), (w.heap.size + 2, 24, q, 91)] wr := ⟨hs.F, fun x hx => by
        simp only [List.mem_cons, List.not_mem_nil, or_false] at hx
        rcases hx with rfl | rfl
        · exact hs.B _ (.head _)
        · exact ⟨by omega, fQ.blk⟩⟩
      clear fQ
      go_upto_region 9 with (fail)
      refine wp_join [29, 30, 31, 32] (fun w' u => FlW p o (h || stepH f oneG q) w w' ∧ Blk w' (w.heap.size + 1) (rowA 300 (stepF f oneG q)) 93)
        (fun u => ⟨⟨.pointer (some ⟨p, o, none⟩) :: .agg (rowA 300 f) :: .int .i64 m :: .slice pa k c :: undef :: .pointer (some ⟨w.heap.size, 0, none⟩) :: undef :: undef :: .pointer (some ⟨w.heap.size + 1, 0, none⟩) :: .pointer (some ⟨w.heap.size + 2, 0, none⟩) :: u10 :: u11 :: u12 :: .slice pa k c :: .int .i64 (k : Int) :: .int .i64 (k : Int) :: .bool false :: u17 :: u18 :: u19 :: u20 :: u21 :: u22 :: u23 :: u24 :: u25 :: u26 :: u27 :: u28 :: u 29 :: u 30 :: u 31 :: u 32 :: []⟩, []⟩) (fun u => by kernel_rfl) ?_ ?_
      · refine wp_region_held (S := fun w' => ∃ g, Fr w p o g [(w.heap.size, 300, f, 93), (w.heap.size + 2, 24, q, 91)] w') (by kernel_rfl) ?_
        change wpAnyH _ _ _ _ _ _ _ _ (World.drew _)
        replace hs := hs.drew
        replace fR := fR.drew
        generalize World.drew wr = W0 at *
        refine wpAnyH_take (i := 0) rfl (by kernel_rfl) (by kernel_rfl) (by kernel_rfl) (fun _ _ _ h => nomatch h.1) (yields_pure (v := .pointer (some ⟨p, o, none⟩)) (by kernel_rfl) (fun _ => by kernel_rfl)) ⟨_, hs⟩ ?_
        refine wpAnyH_as (b := actG p o w.heap.size f m pa k c u10 u11 u12 u17 u18 u19 u20 u21 u22 u23 u24 u25 u26 u27 u28 (.pointer (some ⟨p, o, none⟩)) undef undef undef) (by kernel_rfl) ?_
        refine wpAnyH_take (i := 1) rfl (by kernel_rfl) (by kernel_rfl) (by kernel_rfl) (fun _ _ _ h => nomatch h.1) (yields_row 93 (.tmp 5) (w.heap.size) 300 (f) 93 _ (by kernel_rfl) rfl (by kernel_rfl) (fun _ ⟨_, s⟩ => s.get (.head _)) Try.underlying93 rfl covSize) ⟨_, hs⟩ ?_
        refine wpAnyH_as (b := actG p o w.heap.size f m pa k c u10 u11 u12 u17 u18 u19 u20 u21 u22 u23 u24 u25 u26 u27 u28 (.pointer (some ⟨p, o, none⟩)) (.agg (rowA 300 (f))) undef undef) (by kernel_rfl) ?_
        refine wpAnyH_take (i := 2) rfl (by kernel_rfl) (by kernel_rfl) (by kernel_rfl) (fun _ _ _ h => nomatch h.1) (yields_pure (v := .slice (some ⟨w.heap.size + 2, 0, none⟩) 24 24) (by kernel_rfl) (fun _ => by kernel_rfl)) ⟨_, hs⟩ ?_
        refine wpAnyH_as (b := actG p o w.heap.size f m pa k c u10 u11 u12 u17 u18 u19 u20 u21 u22 u23 u24 u25 u26 u27 u28 (.pointer (some ⟨p, o, none⟩)) (.agg (rowA 300 (f))) (.slice (some ⟨w.heap.size + 2, 0, none⟩) 24 24) undef) (by kernel_rfl) ?_
        refine wpAnyH_all (rs := [3]) (by kernel_rfl) (by simp) ?_
        intro i hi
        obtain rfl : i = 3 := by simpa using hi
        refine wpOp_call (by kernel_rfl) (by kernel_rfl) (by kernel_rfl) (with_full p o (w.heap.size + 2) f q _ _ (hs.F.fl fl) (hs.get (.tail _ (.head _)))) ?_
        intro W1 k
        replace hs := hs.flag hpw k
        replace fR := fR.flag hpw k
        clear k
        refine ⟨⟨_, hs⟩, ?_⟩
        refine wpAnyH_as (b := actG p o w.heap.size f m pa k c u10 u11 u12 u17 u18 u19 u20 u21 u22 u23 u24 u25 u26 u27 u28 (.pointer (some ⟨p, o, none⟩)) (.agg (rowA 300 (f))) (.slice (some ⟨w.heap.size + 2, 0, none⟩) 24 24) (.agg (rowA 300 (stepF f oneG q)))) (by kernel_rfl) ?_
        refine wpAnyH_all (rs := [4]) (by kernel_rfl) (by simp) ?_
        intro i hi
        obtain rfl : i = 4 := by simpa using hi
        refine wpOp_store (by kernel_rfl) (by kernel_rfl) 93 (.tmp 8) (.tmp 32) (w.heap.size + 1) 300 (stepF f oneG q) (fun _ => 0) 93 (by kernel_rfl) (by kernel_rfl) (by kernel_rfl) fR.blk covSize ?_
        replace hs := hs.row fR.lo fR.gt (rowA 300 (stepF f oneG q))
        replace fR := fR.set (r := (stepF f oneG q))
        refine ⟨⟨_, hs⟩, ?_⟩
        refine wpAnyH_done (by kernel_rfl) ?_ _
        exact ⟨rfl, by kernel_rfl, hs.F, fR.blk⟩
      · rintro w' u ⟨hF, hR⟩
        clear hs fR
        go_wp2_with fail
        exact bodyPost_ret (v := .agg (rowA 300 (stepF f oneG q))) (results_row rfl _ _ (w.heap.size + 1) 300 _ _ _ rfl hR Try.underlying93 rfl covSize) rfl ⟨by rw [HR.out.1], by rw [HR.out.2]; exact hF⟩
end Go.Proofs.Ytfkeljolpcbbkaa
