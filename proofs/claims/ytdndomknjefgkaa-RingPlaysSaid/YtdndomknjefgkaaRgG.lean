/- The first samples are struck; taken out of a buffer. -/
import Derived.Test.YtdndomknjefgkaaRgF
namespace Go.Proofs.Ytdndomknjefgkaa.Rg
open Go.RowKit
/-- What Delete hands back. -/
def Cut (v : Value) (l : List Sam) (w : World) (e : Ending) (w' : World) : Prop := ∃ v', e = .returned v' ∧ Row w' v' l ∧ Tch (own v) w w' ∧ own v' = own v
set_option maxRecDepth 100000 in
set_option maxHeartbeats 4000000 in
theorem delete_none (v : Value) (l : List Sam) (w : World) (hv : Row w v l) :
    Calls Try.prog 44 #[v, .int .i64 0, .int .i64 0] w (Cut v l w) := by
  cases hv with
  | nil =>
    go_enter Try.func44, Try.ntmps44
    go_wp2
    go_ret
    exact ⟨_, rfl, .nil, Tch.refl _ _, rfl⟩
  | lies g cap F l hB hc hcm hF =>
    have HR : Hid (Row w (.slice (some ⟨g, 0, none⟩) l.length cap) l) := .lies g cap F l hB hc hcm hF
    clear hF hcm hB
    generalize hl : l.length = n at *
    have h1 : (0 : Int) ≤ (n : Int) := by omega
    have h2 : (n : Int) ≤ (cap : Int) := by omega
    clear hl
    go_enter Try.func44, Try.ntmps44
    go_wp2
    go_ret
    exact ⟨_, rfl, HR.out, Tch.refl _ _, rfl⟩
set_option maxRecDepth 100000 in
set_option maxHeartbeats 4000000 in
theorem delete_some (g cap i : Nat) (F : Nat → Int) (l : List Sam) (w : World) (hB : Blk w g (rowA (9 * cap) F) 56) (hc : l.length ≤ cap) (hcm : cap ≤ maxLen)
    (hF : ∀ q, q < 9 * l.length → F q = fl l q) (hn : l.length < 1000) (hi0 : 0 < i) (hi : i < l.length) :
    Calls Try.prog 44 #[.slice (some ⟨g, 0, none⟩) l.length cap, .int .i64 0, .int .i64 (i : Nat)] w (Cut (.slice (some ⟨g, 0, none⟩) l.length cap) (l.drop i) w) := by
  have hS := (Row.cap_ints hB hc hF (i := i) (n := l.length - i) (by omega)).drew
  have hlen : (l.drop i).length = l.length - i := by simp
  have hfl := fl_drop l i
  generalize hl : l.length = n at *
  have HF := Lib.hid hF
  have HL := Lib.hid (And.intro hlen hfl)
  unfold maxLen at hcm
  have r1 := fun sc => app_room w.drew 61 g 0 cap (n - i) sc g (i * 9) (fun q => fl l (i * 9 + q)) F hB.drew hS (by omega)
  have hN1 := putI_blk (w := w.drew) (n := (n - i) * 9) (f := fun q => fl l (i * 9 + q)) (o := 0 * 9) hB.drew (by omega)
  have hT1 : Tch [g] w (putI w.drew g (0 * 9) ((n - i) * 9) fun q => fl l (i * 9 + q)) := (Tch.refl _ _).drew.putI (.inl (by simp)) _ _ _
  simp only [Nat.zero_add, Nat.zero_mul] at r1 hN1 hT1
  generalize hY : putI w.drew g 0 ((n - i) * 9) (fun q => fl l (i * 9 + q)) = Y at *
  have r2 := fun ty c => run_clear9 Y ty g ((n - i) * 9) i c hi0 hN1 (by omega)
  have hN2 := putI_blk (n := 9 * i) (f := fun _ => 0) (o := (n - i) * 9) hN1 (by omega)
  have hT2 : Tch [g] w (putI Y g ((n - i) * 9) (9 * i) fun _ => 0) := hT1.putI (.inl (by simp)) _ _ _
  have HX := Lib.hid (And.intro hN2 hT2)
  have HI := Lib.hid (And.intro hi (And.intro hc (show cap ≤ maxLen from hcm)))
  clear hF hl hlen hfl hN1 hT1 hN2 hT2 hB hS hY
  have e1 : ¬ cap = i := by omega
  have e2 : ¬ cap = n - i := by omega
  have e3 : ¬ (i : Int) = 0 := by omega
  have e4 : (0 : Int) ≤ (i : Int) := by omega
  have e5 : (i : Int) ≤ (n : Int) := by omega
  have e6 : (n : Int) ≤ (cap : Int) := by omega
  have e7 : (i : Int) ≤ (cap : Int) := by omega
  have e8 : ¬ (0 : Int) = (i : Int) := by omega
  have e9 : n - (n - i) = i := by omega
  go_enter Try.func44, Try.ntmps44
  go_wp2
  go_region_law (refine step_appR (v := .slice (some ⟨g, 0, none⟩) 0 cap) (u := .slice (some ⟨g, i * 9, none⟩) (n - i) (cap - i)) rfl _ _ 61 61 rfl (by simp [Act.eval, Act.put]) (by simp [Act.eval, Act.put]) (r1 _) ?_)
  have e10 : ((n - i : Nat) : Int) ≤ (n : Int) := by omega
  go_wp2_with (at_builtin; refine list_clearR _ rfl _ 61 rfl _ rfl (r2 _ _) ?_)
  go_ret
  refine ⟨_, rfl, row_is HX.out.1 HL.out.1 (by omega) HI.out.2.2 (fun q hq => ?_), HX.out.2, rfl⟩
  rw [HL.out.2, if_neg (by omega), if_pos (by omega)]
  congr 1
  omega
set_option maxRecDepth 100000 in
set_option maxHeartbeats 4000000 in
theorem delete_all (g cap : Nat) (F : Nat → Int) (l : List Sam) (w : World) (hB : Blk w g (rowA (9 * cap) F) 56) (hc : l.length ≤ cap) (hcm : cap ≤ maxLen)
    (hn : l.length < 1000) (hi0 : 0 < l.length) :
    Calls Try.prog 44 #[.slice (some ⟨g, 0, none⟩) l.length cap, .int .i64 0, .int .i64 (l.length : Nat)] w (Cut (.slice (some ⟨g, 0, none⟩) l.length cap) [] w) := by
  generalize hl : l.length = n at *
  unfold maxLen at hcm
  have r1 := fun a sc => app_nothing w.drew 61 (some ⟨g, 0, none⟩) 0 cap sc a (by omega)
  have r2 := fun ty c => run_clear9 w.drew ty g 0 n c hi0 hB.drew (by omega)
  have hN2 := putI_blk (w := w.drew) (n := 9 * n) (f := fun _ => 0) (o := 0) hB.drew (by omega)
  have hT2 : Tch [g] w (putI w.drew g 0 (9 * n) fun _ => 0) := (Tch.refl _ _).drew.putI (.inl (by simp)) _ _ _
  have HX := Lib.hid (And.intro hN2 hT2)
  have HI := Lib.hid (And.intro hc (show cap ≤ maxLen from hcm))
  clear hl hN2 hT2 hB
  have e2 : ¬ cap = 0 := by omega
  have e3 : ¬ (n : Int) = 0 := by omega
  have e4 : (0 : Int) ≤ (n : Int) := by omega
  have e6 : (n : Int) ≤ (cap : Int) := by omega
  have e8 : ¬ (0 : Int) = (n : Int) := by omega
  by_cases hcn : cap = n
  · subst hcn
    go_enter Try.func44, Try.ntmps44
    go_wp2
    go_region_law (refine step_appR (v := .slice (some ⟨g, 0, none⟩) 0 cap) (u := .slice (some ⟨g, 0, none⟩) 0 0) rfl _ _ 61 61 rfl (by simp [Act.eval, Act.put]) (by simp [Act.eval, Act.put]) (r1 _ _) ?_)
    go_wp2_with (at_builtin; refine list_clearR _ rfl _ 61 rfl _ rfl (r2 _ _) ?_)
    go_ret
    exact ⟨_, rfl, row_is (l := []) HX.out.1 rfl (by omega) HI.out.2 (fun q hq => by omega), HX.out.2, rfl⟩
  · go_enter Try.func44, Try.ntmps44
    go_wp2
    go_region_law (refine step_appR (v := .slice (some ⟨g, 0, none⟩) 0 cap) (u := .slice (some ⟨g, n * 9, none⟩) 0 (cap - n)) rfl _ _ 61 61 rfl (by simp [Act.eval, Act.put]) (by simp [Act.eval, Act.put]) (r1 _ _) ?_)
    go_wp2_with (at_builtin; refine list_clearR _ rfl _ 61 rfl _ rfl (r2 _ _) ?_)
    go_ret
    exact ⟨_, rfl, row_is (l := []) HX.out.1 rfl (by omega) HI.out.2 (fun q hq => by omega), HX.out.2, rfl⟩
theorem delete_any (v : Value) (i : Nat) (l : List Sam) (w : World) (hv : Row w v l) (hn : l.length < 1000) (hi : i ≤ l.length) :
    Calls Try.prog 44 #[v, .int .i64 0, .int .i64 (i : Nat)] w (Cut v (l.drop i) w) := by
  rcases Nat.eq_zero_or_pos i with rfl | h0
  · exact delete_none v l w hv
  · cases hv with
    | nil => simp at hi; omega
    | lies g cap F l hB hc hcm hF =>
      rcases Nat.lt_or_ge i l.length with h1 | h1
      · exact delete_some g cap i F l w hB hc hcm hF hn h0 h1
      · obtain rfl : i = l.length := by omega
        rw [List.drop_length]
        exact delete_all g cap F l w hB hc hcm hn h0
end Go.Proofs.Ytdndomknjefgkaa.Rg
