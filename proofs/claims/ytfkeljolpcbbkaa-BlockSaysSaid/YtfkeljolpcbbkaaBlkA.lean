/- Package block: the matrix of ones, whether there is a state of that number, one state begun anew. -/
import Derived.Test.YtfkeljolpcbbkaaBlkN
import Derived.Test.YtfkeljolpcbbkaaTHS
import Derived.Test.YtfkeljolpcbbkaaOpq
namespace Go.Proofs.Ytfkeljolpcbbkaa
open Go.RowKit

theorem zeroMat : Try.zeroCells110 = rowA 576 (fun _ => 0) := by kernel_rfl
theorem anewSize : (Try.prog.info? 182).map (·.size) = some 600 := by kernel_rfl
theorem zeroAnew : Try.zeroCells182 = rowA 600 (fun _ => 0) := by kernel_rfl
theorem fold_set : ∀ (l : List Value) (cs : Array Value) (k : Nat), k + l.length ≤ cs.size → ∀ i, ((l.zipIdx k).foldl (fun (cs : Array Value) (x : Value × Nat) => cs.setIfInBounds (0 + x.2) x.1) cs)[i]? = if k ≤ i ∧ i < k + l.length then l[i - k]? else cs[i]?
  | [], cs, k, _, i => by rw [if_neg (by simp)]; rfl
  | a :: l, cs, k, h, i => by
    rw [List.length_cons] at h
    rw [List.zipIdx_cons, List.foldl_cons, fold_set l _ (k + 1) (by simp; omega) i, List.length_cons, Nat.zero_add, Array.getElem?_setIfInBounds]
    by_cases h1 : k + 1 ≤ i ∧ i < k + 1 + l.length
    · rw [if_pos h1, if_pos (by omega), show i - k = (i - (k + 1)) + 1 by omega, List.getElem?_cons_succ]
    · rw [if_neg h1]
      by_cases h2 : k = i
      · subst h2
        rw [if_pos rfl, if_pos (by omega), if_pos (by omega), Nat.sub_self, List.getElem?_cons_zero]
      · rw [if_neg h2, if_neg (by omega)]
theorem fill_row {N n : Nat} (f g : Nat → Int) (h : n ≤ N) (place : Nat → Option (Nat × Nat)) (hp : place 0 = some (0, n)) : Instr.fill place (rowA N f) [(0, .agg (rowA n g))] = some (rowA N fun k => if k < n then g k else f k) := by
  unfold Instr.fill Instr.fill
  rw [hp]
  have h1 : (Value.agg (rowA n g)).cells = rowA n g := rfl
  dsimp only
  rw [h1, rowA_size, rowA_size, if_neg (by simp; omega)]
  congr 1
  rw [← Array.foldl_toList, Array.toList_zipIdx]
  refine Array.ext_getElem? fun i => ?_
  have := fold_set (rowA n g).toList (rowA N f) 0 (by rw [Array.length_toList, rowA_size, rowA_size]; omega) i
  rw [this, Array.length_toList, rowA_size]
  by_cases hi : i < n
  · rw [if_pos (by omega), Nat.sub_zero, Array.getElem?_toList, rowA_get _ hi, rowA_get _ (by omega), if_pos hi]
  · rw [if_neg (by omega)]
    by_cases hN : i < N
    · rw [rowA_get _ hN, rowA_get _ hN, if_neg hi]
    · rw [rowA_none _ (by omega), rowA_none _ (by omega)]
theorem built_is (v : Value) : Try.prog.built 182 [(0, v)] = Instr.fill ((#[(0, 576), (576, 24)] : Array (Nat × Nat))[·]?) (rowA 600 fun _ => 0) [(0, v)] := by kernel_rfl
theorem built_anew : Try.prog.built 182 [(0, .agg (rowA 576 oneG))] = some (rowA 600 anew0) := by
  rw [built_is, fill_row _ _ (by decide) _ rfl]; rfl
set_option maxRecDepth 10000 in
set_option maxHeartbeats 2000000 in
theorem one_any (w : World) :
    Calls Try.prog 162 #[] w fun e w' => e = .returned (.agg (rowA 576 oneG)) ∧ Below w.heap.size w w' := by
  go_enter Try.func162, Try.ntmps162
  go_upto_region 2 with (fail)
  rw [zeroMat]
  generalize hW : World.alloc (World.alloc w _) _ = X
  have hb : Below w.heap.size w X := by subst hW; exact ((Below.refl _ _).alloc (Nat.le_refl _) _).alloc (by simp) _
  have hR : Blk X w.heap.size (rowA 576 fun _ => 0) 110 := by subst hW; exact (Blk.made _ _ _ rfl).alloc _
  have hF : Blk X (w.heap.size + 1) (rowA 576 (oneT 0)) 110 := by subst hW; rw [oneT_zero]; exact Blk.made _ _ _ (by simp)
  clear hW
  go_wp2_with fail
  go_loopw [3] (fun i' wr => ∃ k : Nat, k ≤ 24 ∧ i' = .int .i64 k ∧ Below w.heap.size w wr ∧ Blk wr w.heap.size (rowA 576 fun _ => 0) 110 ∧ Blk wr (w.heap.size + 1) (rowA 576 (oneT k)) 110) (fun i' _ => 24 - (intOf i').toNat)
  case atStart => exact ⟨0, by omega, rfl, hb, hR, hF⟩
  case round =>
    clear hb hR hF
    obtain ⟨k, hk, rfl, hb, hR, hF⟩ := hrel
    by_cases hlt : k < 24
    · have hltI : (k : Int) < 24 := by omega
      have hk0 : (0 : Int) ≤ (k : Int) := by omega
      have hc := hF.cell (k * 24 + k)
      rw [rowA_get _ (by omega)] at hc
      have hf := hF.free (k * 24 + k)
      have hF2 := hF.setI (k := k * 24 + k) (by omega) 1073741824
      rw [oneT_next hlt] at hF2
      have hb2 := hb.setCell (p := ⟨w.heap.size + 1, k * 24 + k, none⟩) (by simp) (.int .i64 1073741824)
      have hR2 := hR.other (b := w.heap.size + 1) (i := k * 24 + k) (by omega) (.int .i64 1073741824)
      have H := Lib.hid (And.intro hb2 (And.intro hR2 hF2))
      clear hb2 hR2 hF2 hb hR hF
      go_wp2_with fail
      go_roundw
      case rel =>
        obtain ⟨hb2, hR2, hF2⟩ := H.out
        exact ⟨k + 1, by omega, by go_num, hb2, hR2, hF2⟩
      case measure => simp [intOf]; omega
    · obtain rfl : k = 24 := by omega
      clear hlt hk
      have hF := hF.congr (fun j hj => oneT_all hj)
      go_wp2_with (first
        | (refine row_load 110 _ rfl rfl (w.heap.size + 1) 576 _ _ rfl hF _ Try.underlying110 rfl matSize ?_)
        | (refine row_store 110 _ _ rfl rfl w.heap.size 576 _ _ _ rfl rfl hR matSize ?_))
      exact bodyPost_ret (v := .agg (rowA 576 oneG)) (results_row rfl _ _ w.heap.size 576 _ _ _ rfl hR.setRow Try.underlying110 rfl matSize) rfl ⟨rfl, below_setRow hb (Nat.le_refl _) _⟩
theorem bexists_is (i : Int) (b : Bool) (h : inN i = b) (w : World) : Calls Try.prog 174 #[.int .i64 i] w fun e w' => e = .returned (.bool b) ∧ w' = w := by
  go_enter Try.func174, Try.ntmps174
  cases b
  · rw [inN_no] at h
    by_cases h0 : (0 : Int) ≤ i
    · have h1 : ¬ i < 24 := by omega
      go_wp2_with fail
      go_ret
      exact ⟨rfl, rfl⟩
    · clear h
      go_wp2_with fail
      go_ret
      exact ⟨rfl, rfl⟩
  · rw [inN_iff] at h
    obtain ⟨h0, h1⟩ := h
    go_wp2_with fail
    go_ret
    exact ⟨rfl, rfl⟩
end Go.Proofs.Ytfkeljolpcbbkaa
