/- Samples taken out of a buffer; a new one; the first. -/
import Derived.Test.YtdndomknjefgkaaRgH
namespace Go.Proofs.Ytdndomknjefgkaa.Rg
open Go.RowKit
theorem come_lt (u : Int) (l : List Sam) (i : Nat) (h : i < come u l) : i < l.length := Nat.lt_of_lt_of_le h (come_le u l)
theorem row_cell {w : World} {v : Value} {l : List Sam} (h : Row w v l) {i : Nat} (hi : i < l.length) : ∃ g c, v = .slice (some ⟨g, 0, none⟩) l.length c ∧ ∀ j, j < 9 → w.cell? ⟨g, i * 9 + j, none⟩ = some (.int .i64 (fn (l.getD i []) j)) := by
  rcases h.inv with ⟨_, h1⟩ | ⟨g, cap, F, h1, hB2, hc2, hcm, hF⟩
  · rw [h1] at hi; simp at hi
  · refine ⟨g, cap, h1, fun j hj => ?_⟩
    rw [hB2.cell, rowA_get _ (by omega), hF _ (by omega), Nat.mul_comm, fl_at _ _ _ hj]
/-- What Pop leaves. -/
def Popped (A : Nat) (v : Value) (b : Ring) (u : Int) (w : World) (e : Ending) (w' : World) : Prop :=
  ∃ t v', e = .returned t ∧ Row w' t (b.l.take (come u b.l)) ∧ (∀ q, q ∈ own t → w.heap.size ≤ q) ∧ Buf w' A v' (b.pop u) ∧ own v' = own v ∧ Tch (A :: own v) w w'
set_option maxRecDepth 100000 in
set_option maxHeartbeats 4000000 in
theorem pop_any (A : Nat) (v : Value) (b : Ring) (u : Int) (w : World) (h : Buf w A v b) (hs : b.cIn < 1000000) :
    Calls Try.prog 22 #[.pointer (some ⟨A, 0, none⟩), .int .i64 u] w (Popped A v b u w) := by
  obtain ⟨a, c, hv, hc⟩ := h.row.shape
  obtain ⟨z, hz⟩ : ∃ z, z = max b.hor u := ⟨_, rfl⟩
  have hcl := come_le u b.l
  have hlen := h.len
  have c4 := h.blk.cell 4
  have c5 := h.blk.cell 5
  have c7 := h.blk.cell 7
  have f4 := h.blk.free 4
  have f7 := h.blk.free 7
  simp only [bufC] at c4 c5 c7
  have H := Lib.hid h
  have hA : A < w.heap.size := h.blk.lt
  have B1 := Lib.hid (blk_setC (i := 7) (u := .int .i64 z) h.blk rfl)
  have T1 : Hid (Tch [A] w (w.setCell ⟨A, 7, none⟩ (.int .i64 z))) := Lib.hid ((Tch.refl _ _).set (.inl (by simp)) _ _)
  have HR := Lib.hid (h.row.keep T1.out (fun q hq => by have := H.out.ne; simp; rintro rfl; exact this hq))
  have d4 : (w.setCell ⟨A, 7, none⟩ (.int .i64 z)).cell? ⟨A, 4, none⟩ = some (.int .i64 (b.out : Nat)) := by rw [set_cell_other (.inr (by omega))]; exact c4
  have d5 : (w.setCell ⟨A, 7, none⟩ (.int .i64 z)).cell? ⟨A, 5, none⟩ = some v := by rw [set_cell_other (.inr (by omega))]; exact c5
  have g4 : (w.setCell ⟨A, 7, none⟩ (.int .i64 z)).frozen? ⟨A, 4, none⟩ = false := by rw [set_frozen]; exact f4
  clear h c4 c5 f4
  subst hv
  have hout : b.out < 1000000 := by have := H.out.sum; omega
  generalize hn : b.l.length = n at *
  generalize hk : come u b.l = m at *
  have HN := Lib.hid (And.intro hn hk)
  have HZ := Lib.hid hz
  clear hn hk hz
  have e1 : (n : Int) ≤ (c : Int) := by omega
  have hmx : (if b.hor < u then u else b.hor) = z := by rw [HZ.out]; split <;> omega
  go_enter Try.func22, Try.ntmps22
  go_upto_region 2 with (fail)
  generalize hW : World.setCell w _ _ = W at *
  have hAW : A < W.heap.size := by rw [← hW, size_set]; exact hA
  have TK : Hid (∀ k : Nat, k = m → Calls Try.prog 35 #[.pointer (some ⟨A, 0, none⟩), .int .i64 (k : Nat)] (W.setCell ⟨A, 4, none⟩ (.int .i64 ((b.out : Int) + (k : Int)))) (fun e w' => ∃ t, e = .returned t ∧ ∃ a2 n2 c2, t = .slice a2 n2 c2 ∧ Popped A (.slice a n c) b u w (.returned t) w')) := Lib.hid fun k hk => by
    have hne := H.out.ne
    have hsum := H.out.sum
    rw [HN.out.1] at hsum
    have T2 : Tch [A] w (W.setCell ⟨A, 4, none⟩ (.int .i64 ((b.out : Int) + (k : Int)))) := T1.out.set (.inl (by simp)) _ _
    have hd : ∀ q, q ∈ own (.slice a n c) → q ∉ [A] := fun q hq => by simp; rintro rfl; exact hne hq
    refine (take_any A k (.slice a n c) { b with hor := z, out := b.out + k } _ (blk_is (blk_setC B1.out rfl) (by simp [bufC])) (H.out.row.keep T2 hd) hne (by show b.l.length < 1000; rw [HN.out.1]; omega) (by show k ≤ b.l.length; rw [HN.out.1]; omega)).mono ?_
    rintro e w' ⟨t, v', rfl, r1, r2, r3, r4, r5, r6⟩
    obtain ⟨a2, c2, ht, _⟩ := r1.shape
    refine ⟨t, rfl, a2, _, c2, ht, t, v', rfl, by rw [HN.out.2, ← hk]; exact r1, fun q hq => by have := r2 q hq; have := T2.size; omega, ⟨?_, ?_, by rw [r5]; exact hne, ?_, ?_, ?_, ?_⟩, r5, (T2.mono (fun q hq => .inl (by simp at hq; subst hq; exact List.mem_cons_self ..))).then r6 (fun q hq => .inl hq)⟩
    · unfold Ring.pop; rw [HN.out.2, ← hk, ← HZ.out]; exact blk_is r3 (by simp [bufC])
    · unfold Ring.pop; rw [HN.out.2, ← hk]; exact r4
    · exact List.Pairwise.sublist (List.drop_sublist _ _) H.out.srt
    · exact fun y hy => H.out.nine y (List.mem_of_mem_drop hy)
    · simp [Ring.pop]; have := H.out.len; omega
    · simp [Ring.pop]; rw [HN.out.2, HN.out.1]; omega
  clear hW hmx c7 f7
  go_wp2_with fail
  go_loopw [5] (fun s wr => ∃ k : Nat, s = .int .i64 k ∧ k ≤ m ∧ wr = W) (fun s _ => m - (intOf s).toNat)
  case atStart => exact ⟨0, rfl, Nat.zero_le _, rfl⟩
  case round =>
    obtain ⟨k, rfl, hkm, rfl⟩ := hrel
    by_cases hlt : k < m
    · obtain ⟨g, c2, h1, hT⟩ := row_cell HR.out (i := k) (by rw [HN.out.1]; omega)
      have hle : fn (b.l.getD k []) 0 ≤ u := come_in u b.l k (by rw [HN.out.2]; exact hlt)
      injection h1 with h1 h2 h3
      subst h1 h3
      have t0 := hT 0 (by omega)
      rw [Nat.add_zero] at t0
      generalize fn (b.l.getD k []) 0 = t at *
      have e2 : (k : Int) < (n : Int) := by omega
      have e3 : (0 : Int) ≤ (k : Int) := by omega
      clear hT h2
      go_wp2_with fail
      go_roundw
      case rel => exact ⟨k + 1, by go_num, by omega, by simp⟩
      case measure => simp [intOf]; omega
    · obtain rfl : k = m := by omega
      by_cases hkn : k < n
      · obtain ⟨g, c2, h1, hT⟩ := row_cell HR.out (i := k) (by rw [HN.out.1]; omega)
        have hle : u < fn (b.l.getD k []) 0 := by have := come_end u b.l (by rw [HN.out.1, HN.out.2]; exact hkn); rwa [HN.out.2] at this
        have hle2 : ¬ fn (b.l.getD k []) 0 ≤ u := by omega
        injection h1 with h1 h2 h3
        subst h1 h3
        have t0 := hT 0 (by omega)
        rw [Nat.add_zero] at t0
        generalize fn (b.l.getD k []) 0 = t at *
        have e2 : (k : Int) < (n : Int) := by omega
        have e3 : (0 : Int) ≤ (k : Int) := by omega
        clear hT h2
        go_wp2_with fail
        refine (TK.out _ rfl).mono ?_
        rintro e w2 ⟨t2, rfl, a2, n2, c3, rfl, hP⟩
        have HP := Lib.hid hP
        clear hP
        go_wp2
        go_ret
        exact HP.out
      · obtain rfl : k = n := by omega
        go_wp2_with fail
        refine (TK.out _ rfl).mono ?_
        rintro e w2 ⟨t2, rfl, a2, n2, c3, rfl, hP⟩
        have HP := Lib.hid hP
        clear hP
        go_wp2
        go_ret
        exact HP.out
end Go.Proofs.Ytdndomknjefgkaa.Rg
