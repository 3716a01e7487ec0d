/- A new buffer; the first sample. -/
import Derived.Test.YtdndomknjefgkaaRgI
namespace Go.Proofs.Ytdndomknjefgkaa.Rg
open Go.RowKit
set_option maxHeartbeats 1000000 in
theorem new_bad (i : Int) (w : World) (h : i < 1 ∨ 64 < i) : Calls Try.prog 18 #[.int .i64 i] w fun e w' => e = .returned (.tuple #[.pointer none, .int .i64 1]) ∧ w' = w := by
  by_cases h1 : i < 1
  · go_enter Try.func18, Try.ntmps18
    go_wp2
    go_ret2
    exact ⟨rfl, rfl⟩
  · have h2 : 64 < i := by omega
    have h3 : ¬ i < 1 := by omega
    go_enter Try.func18, Try.ntmps18
    go_wp2
    go_ret2
    exact ⟨rfl, rfl⟩
set_option maxHeartbeats 1000000 in
theorem new_any (n : Nat) (w : World) (h1 : 1 ≤ n) (h2 : n ≤ 64) : Calls Try.prog 18 #[.int .i64 (n : Nat)] w fun e w' => e = .returned (.tuple #[.pointer (some ⟨w.heap.size, 0, none⟩), .int .i64 0]) ∧ Buf w' w.heap.size (.slice none 0 0) (Ring.new n) ∧ Below w.heap.size w w' ∧ w'.heap.size = w.heap.size + 1 := by
  have e1 : ¬ (n : Int) < 1 := by omega
  have e2 : ¬ (64 : Int) < (n : Int) := by omega
  go_enter Try.func18, Try.ntmps18
  go_wp2
  go_ret2
  exact ⟨rfl, ⟨Blk.made _ _ _ rfl, .nil, by simp [own], List.Pairwise.nil, by simp [Ring.new], by simp [Ring.new], by simp [Ring.new]⟩, (Below.refl _ _).alloc (Nat.le_refl _) _, by simp⟩
theorem zero9 : (#[.int .i64 0, .int .i64 0, .int .i64 0, .int .i64 0, .int .i64 0, .int .i64 0, .int .i64 0, .int .i64 0, .int .i64 0] : Array Value) = rowA 9 fun _ => 0 := rfl
theorem results_row1 {P : Program} {fn : Func} {p u : Tmp} {ty : TypeId} (h : fn.results = #[.cell p ty, .tmp u]) (tmps : Array Value) (w : World) (g n : Nat) (f : Nat → Int) (t : TypeId) (d : TypeDesc)
    (hp : tmps.getD p undef = .pointer (some ⟨g, 0, none⟩)) (hg : Blk w g (rowA n f) t) (hu : P.underlying ty = some d) (hd : (match d with | .struct _ | .array _ _ => true | _ => false) = true) (hi : (P.info? ty).map (·.size) = some n) {x : Value} (hx : tmps.getD u undef = x) :
    (results fn tmps).run P w = .ok (.tuple #[.agg (rowA n f), x]) w := by
  subst hx
  have hp' : tmps[p]?.getD undef = .pointer (some ⟨g, 0, none⟩) := by simpa using hp
  simp [results, h, hp', asAddr, run_loadVar_row w g t ty _ (0, 0) d hg hu hd (by rw [rowA_size]; exact hi)]
set_option maxRecDepth 100000 in
set_option maxHeartbeats 2000000 in
theorem peek_any (A : Nat) (v : Value) (b : Ring) (w : World) (h : Buf w A v b) : Calls Try.prog 26 #[.pointer (some ⟨A, 0, none⟩)] w fun e w' => e = .returned (.tuple #[.agg (rowA 9 (fn (b.l.headD []))), .bool (!b.l.isEmpty)]) ∧ Below w.heap.size w w' := by
  have hA := h.blk.lt
  have hR := h.row
  have hBX := fun c t => (h.blk.alloc (.cells c t)).cell 5
  have hfn : fn [] = fun _ => 0 := by funext j; simp [fn]
  go_enter Try.func26, Try.ntmps26
  go_upto_region 1 with (fail)
  rw [zero9]
  have hX := hBX (rowA 9 fun _ => 0) 56
  generalize hW : World.alloc w _ = X at *
  have hB : Below w.heap.size w X := by subst hW; exact (Below.refl _ _).alloc (Nat.le_refl _) _
  have hS : Blk X w.heap.size (rowA 9 fun _ => 0) 56 := by subst hW; exact Blk.made _ _ _ rfl
  have HB := Lib.hid hB
  clear hW hBX h
  rcases hR.inv with ⟨h1, h2⟩ | ⟨g, cap, F, h1, hB2, hc2, hcm, hF⟩
  · subst h1
    simp only [bufC] at hX
    have H2 := Lib.hid h2
    clear h2 hR hB
    go_wp2_with ((with_reducible refine row_store 56 (.tmp 2) (.tmp 10) ?_ ?_ w.heap.size 9 (fun _ => 0) (fun _ => 0) 56 ?_ ?_ hS samSize ?_); rfl; rfl; rfl; rfl)
    refine bodyPost_ret (v := .tuple #[.agg (rowA 9 fun _ => 0), .bool false]) (results_row1 rfl _ _ w.heap.size 9 _ _ _ rfl hS.setRow Try.underlying56 rfl samSize rfl) rfl ⟨?_, below_setRow HB.out (Nat.le_refl _) _⟩
    rw [H2.out]
    show _ = Ending.returned (.tuple #[.agg (rowA 9 (fn [])), .bool false])
    rw [hfn]
  · have hI := fun n (h : 0 + n ≤ b.l.length) => Row.cap_ints hB2 hc2 hF (i := 0) (n := n) h
    subst h1
    simp only [bufC] at hX
    rcases hl : b.l with _ | ⟨y, r⟩
    · simp only [hl, List.length_nil] at hX
      have H2 := Lib.hid hl
      clear hl hR hB hI hB2 hF hc2
      go_wp2_with ((with_reducible refine row_store 56 (.tmp 2) (.tmp 10) ?_ ?_ w.heap.size 9 (fun _ => 0) (fun _ => 0) 56 ?_ ?_ hS samSize ?_); rfl; rfl; rfl; rfl)
      refine bodyPost_ret (v := .tuple #[.agg (rowA 9 fun _ => 0), .bool false]) (results_row1 rfl _ _ w.heap.size 9 _ _ _ rfl hS.setRow Try.underlying56 rfl samSize rfl) rfl ⟨?_, below_setRow HB.out (Nat.le_refl _) _⟩
      rw [H2.out]
      show _ = Ending.returned (.tuple #[.agg (rowA 9 (fn [])), .bool false])
      rw [hfn]
    · have hy : Ints X g 0 9 (fn y) := by
        have h9 := hI 1 (by rw [hl]; simp)
        have h9 : Ints w g 0 9 (fl b.l) := by simpa using h9
        refine (h9.congr (fun j hj => ?_)).below HB.out hB2.lt
        have := fl_at b.l 0 j hj
        rw [Nat.mul_zero, Nat.zero_add] at this
        rw [this, hl]; rfl
      have hlen : b.l.length = r.length + 1 := by rw [hl]; rfl
      have HL := Lib.hid hl
      rw [hlen] at hX
      generalize r.length = n at *
      have e1 : ¬ (n : Int) + 1 = 0 := by omega
      have e2 : (0 : Int) < (n : Int) + 1 := by omega
      clear hl hR hB hI hB2 hF hc2 hlen
      go_wp2_with (first
        | ((with_reducible refine mid_load 56 (.tmp 15) ?_ ?_ g 0 9 (fn y) ?_ hy _ Try.underlying56 ?_ samSize ?_); rfl; rfl; rfl; rfl)
        | ((with_reducible refine row_store 56 (.tmp 2) (.tmp 16) ?_ ?_ w.heap.size 9 (fn y) (fun _ => 0) 56 ?_ ?_ hS samSize ?_); rfl; rfl; rfl; rfl))
      refine bodyPost_ret (v := .tuple #[.agg (rowA 9 (fn y)), .bool true]) (results_row1 rfl _ _ w.heap.size 9 _ _ _ rfl hS.setRow Try.underlying56 rfl samSize rfl) rfl ⟨?_, below_setRow HB.out (Nat.le_refl _) _⟩
      rw [HL.out]
      rfl
end Go.Proofs.Ytdndomknjefgkaa.Rg
