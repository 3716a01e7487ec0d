/- Package thornton: variances added. -/
import Derived.Test.YtfkeljolpcbbkaaBlkA
import Derived.Test.YtfkeljolpcbbkaaKP
namespace Go.Proofs.Ytfkeljolpcbbkaa
open Go.RowKit

def actW (p o s Q : Nat) (f : Nat → Int) (a11 a12 a13 a14 a15 : Value) : Act := ⟨⟨.pointer (some ⟨p, o, none⟩) :: .agg (rowA 300 f) :: .slice (some ⟨Q, 0, none⟩) 24 24 :: undef :: .pointer (some ⟨s, 0, none⟩) :: undef :: .pointer (some ⟨s + 1, 0, none⟩) :: .pointer (some ⟨s + 2, 0, none⟩) :: .slice (some ⟨s + 2, 0, none⟩) 24 24 :: .slice (some ⟨Q, 0, none⟩) 24 24 :: .int .i64 24 :: a11 :: a12 :: a13 :: a14 :: a15 :: []⟩, []⟩
set_option maxRecDepth 100000 in
set_option maxHeartbeats 8000000 in
theorem with_full (p o Q : Nat) (f q : Nat → Int) (h : Bool) (w : World) (fl : Fl p o h w) (hQ : Blk w Q (rowA 24 q) 91) :
    Calls Try.prog 161 #[.pointer (some ⟨p, o, none⟩), .agg (rowA 300 f), .slice (some ⟨Q, 0, none⟩) 24 24] w fun e w' => e = .returned (.agg (rowA 300 (stepF f oneG q))) ∧ FlW p o (h || stepH f oneG q) w w' := by
  have hpw := fl.lt
  go_enter Try.func161, Try.ntmps161
  go_upto_region 2 with (fail)
  rw [zeroCov, zero24]
  generalize hW : World.alloc (World.alloc (World.alloc w _) _) _ = X
  have hF : FlW p o h w X := by subst hW; exact (((FlW.refl fl).alloc _).alloc _).alloc _
  have hP : Blk X w.heap.size (rowA 300 f) 93 := by subst hW; exact ((Blk.made _ _ _ rfl).alloc _).alloc _
  have hR : Blk X (w.heap.size + 1) (rowA 300 fun _ => 0) 93 := by subst hW; exact (Blk.made _ _ _ (by simp)).alloc _
  have hN : Blk X (w.heap.size + 2) (rowA 24 fun _ => 0) 91 := by subst hW; exact Blk.made _ _ _ (by simp)
  have hI : Ints X Q 0 24 q := by subst hW; exact (((hQ.alloc _).alloc _).alloc _).ints
  clear hW hQ
  go_upto_region 3 with (refine own_put _ ?_ (.tmp 8) (.tmp 9) 63 ?_ 2 Try.underlying63 numSize (w.heap.size + 2) 24 24 Q 0 24 24 24 q ?_ ?_ ?_ hN ?_ hI ?_; rfl; rfl; rfl; rfl; rfl; decide)
  have hN := (putR_blk (n := 24) (f := q) hN (by decide)).congr (g := q) fun k hk => if_pos hk
  have hs : Fr w p o h [(w.heap.size, 300, f, 93), (w.heap.size + 2, 24, q, 91)] (putR X (w.heap.size + 2) 24 q) := ⟨hF.putR (by omega), fun x hx => by
    simp only [List.mem_cons, List.not_mem_nil, or_false] at hx
    rcases hx with rfl | rfl
    · exact ⟨Nat.le_refl _, putR_other hP (by omega)⟩
    · exact ⟨by omega, hN⟩⟩
  have fR : Fresh2 w [(w.heap.size, 300, f, 93), (w.heap.size + 2, 24, q, 91)] (w.heap.size + 1) 300 (fun _ => 0) 93 (putR X (w.heap.size + 2) 24 q) := ⟨by omega, fun x hx => by
    simp only [List.mem_cons, List.not_mem_nil, or_false] at hx
    rcases hx with rfl | rfl <;> (dsimp only; omega), putR_other hR (by omega)⟩
  clear hF hP hR hN hI
  generalize putR _ _ _ _ = X2 at *
  dsimp only [Act.put]
  refine wp_join [11, 12, 13, 14, 15] (fun w' u => FlW p o (h || stepH f oneG q) w w' ∧ Blk w' (w.heap.size + 1) (rowA 300 (stepF f oneG q)) 93)
    (fun u => ⟨⟨.pointer (some ⟨p, o, none⟩) :: .agg (rowA 300 f) :: .slice (some ⟨Q, 0, none⟩) 24 24 :: undef :: .pointer (some ⟨w.heap.size, 0, none⟩) :: undef :: .pointer (some ⟨w.heap.size + 1, 0, none⟩) :: .pointer (some ⟨w.heap.size + 2, 0, none⟩) :: .slice (some ⟨w.heap.size + 2, 0, none⟩) 24 24 :: .slice (some ⟨Q, 0, none⟩) 24 24 :: .int .i64 24 :: u 11 :: u 12 :: u 13 :: u 14 :: u 15 :: []⟩, []⟩) (fun u => by kernel_rfl) ?_ ?_
  · refine wp_region_held (S := fun w' => ∃ g, Fr w p o g [(w.heap.size, 300, f, 93), (w.heap.size + 2, 24, q, 91)] w') (by kernel_rfl) ?_
    change wpAnyH _ _ _ _ _ _ _ _ (World.drew _)
    replace hs := hs.drew
    replace fR := fR.drew
    generalize World.drew X2 = W0 at *
    refine wpAnyH_take (i := 0) rfl (by kernel_rfl) (by kernel_rfl) (by kernel_rfl) (fun _ _ _ h => nomatch h.1) (yields_pure (v := .pointer (some ⟨p, o, none⟩)) (by kernel_rfl) (fun _ => by kernel_rfl)) ⟨_, hs⟩ ?_
    refine wpAnyH_as (b := actW p o w.heap.size Q f (.pointer (some ⟨p, o, none⟩)) undef undef undef undef) (by kernel_rfl) ?_
    refine wpAnyH_take (i := 1) rfl (by kernel_rfl) (by kernel_rfl) (by kernel_rfl) (fun _ _ _ h => nomatch h.1) (yields_row 93 (.tmp 4) (w.heap.size) 300 (f) 93 _ (by kernel_rfl) rfl (by kernel_rfl) (fun _ ⟨_, s⟩ => s.get (.head _)) Try.underlying93 rfl covSize) ⟨_, hs⟩ ?_
    refine wpAnyH_as (b := actW p o w.heap.size Q f (.pointer (some ⟨p, o, none⟩)) (.agg (rowA 300 (f))) undef undef undef) (by kernel_rfl) ?_
    refine wpAnyH_take (i := 3) rfl (by kernel_rfl) (by kernel_rfl) (by kernel_rfl) (fun _ _ _ h => nomatch h.1) (yields_row 91 (.tmp 7) (w.heap.size + 2) 24 (q) 91 _ (by kernel_rfl) rfl (by kernel_rfl) (fun _ ⟨_, s⟩ => s.get (.tail _ (.head _))) Try.underlying91 rfl rowDSize) ⟨_, hs⟩ ?_
    refine wpAnyH_as (b := actW p o w.heap.size Q f (.pointer (some ⟨p, o, none⟩)) (.agg (rowA 300 (f))) undef (.agg (rowA 24 (q))) undef) (by kernel_rfl) ?_
    refine wpAnyH_all (rs := [2]) (by kernel_rfl) (by simp) ?_
    intro i hi
    obtain rfl : i = 2 := by simpa using hi
    refine wpOp_call (by kernel_rfl) (by kernel_rfl) (by kernel_rfl) (one_any _) ?_
    intro W1 k
    replace hs := hs.call k
    replace fR := fR.call k
    clear k
    refine ⟨⟨_, hs⟩, ?_⟩
    refine wpAnyH_as (b := actW p o w.heap.size Q f (.pointer (some ⟨p, o, none⟩)) (.agg (rowA 300 (f))) (.agg (rowA 576 oneG)) (.agg (rowA 24 (q))) undef) (by kernel_rfl) ?_
    refine wpAnyH_all (rs := [4]) (by kernel_rfl) (by simp) ?_
    intro i hi
    obtain rfl : i = 4 := by simpa using hi
    refine wpOp_call (by kernel_rfl) (by kernel_rfl) (by kernel_rfl) (step_any p o f oneG q _ _ (hs.F.fl fl)) ?_
    intro W2 k
    replace hs := hs.flag hpw k
    replace fR := fR.flag hpw k
    clear k
    refine ⟨⟨_, hs⟩, ?_⟩
    refine wpAnyH_as (b := actW p o w.heap.size Q f (.pointer (some ⟨p, o, none⟩)) (.agg (rowA 300 (f))) (.agg (rowA 576 oneG)) (.agg (rowA 24 (q))) (.agg (rowA 300 (stepF f oneG q)))) (by kernel_rfl) ?_
    refine wpAnyH_all (rs := [5]) (by kernel_rfl) (by simp) ?_
    intro i hi
    obtain rfl : i = 5 := by simpa using hi
    refine wpOp_store (by kernel_rfl) (by kernel_rfl) 93 (.tmp 6) (.tmp 15) (w.heap.size + 1) 300 (stepF f oneG q) (fun _ => 0) 93 (by kernel_rfl) (by kernel_rfl) (by kernel_rfl) fR.blk covSize ?_
    replace hs := hs.row fR.lo fR.gt (rowA 300 (stepF f oneG q))
    replace fR := fR.set (r := (stepF f oneG q))
    refine ⟨⟨_, hs⟩, ?_⟩
    refine wpAnyH_done (by kernel_rfl) ?_ _
    exact ⟨rfl, by kernel_rfl, hs.F, fR.blk⟩
  · rintro w' u ⟨hF, hR⟩
    clear hs fR
    go_wp2_with fail
    exact bodyPost_ret (v := .agg (rowA 300 (stepF f oneG q))) (results_row rfl _ _ (w.heap.size + 1) 300 _ _ _ rfl hR Try.underlying93 rfl covSize) rfl ⟨rfl, hF⟩
end Go.Proofs.Ytfkeljolpcbbkaa
