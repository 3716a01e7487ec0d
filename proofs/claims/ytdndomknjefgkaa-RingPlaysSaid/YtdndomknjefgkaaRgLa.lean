/- What a buffer of a size holds is the end of what a larger one holds. Numbers alone; slices that come in, with bounds. -/
import Derived.Test.YtdndomknjefgkaaRgZ
namespace Go.Proofs.Ytdndomknjefgkaa.Rg
open Go.RowKit
theorem fitL_intsR : ∀ (n k : Nat) (us : List Value), SX.FitL (SX.repL (List.replicate k (some IntKind.i64)) n) us → ∃ l : List Int, l.length = n * k ∧ us = l.map (Value.int .i64) ∧ ∀ a ∈ l, -9223372036854775808 ≤ a ∧ a ≤ 9223372036854775807
  | 0, k, us, h => by
    cases us with
    | nil => exact ⟨[], by simp, rfl, by simp⟩
    | cons _ _ => exact h.elim
  | n + 1, k, us, h => by
    have hl : ∀ (ks ls : List (Option IntKind)) (us : List Value), SX.FitL (ks ++ ls) us → SX.FitL ks (us.take ks.length) ∧ SX.FitL ls (us.drop ks.length) := by
      intro ks
      induction ks with
      | nil => intro ls us h; exact ⟨by simp [SX.FitL], h⟩
      | cons a ks ih =>
        intro ls us h
        cases us with
        | nil => exact h.elim
        | cons u us =>
          obtain ⟨h1, h2⟩ := h
          obtain ⟨h3, h4⟩ := ih ls us h2
          exact ⟨⟨h1, h3⟩, h4⟩
    obtain ⟨h1, h2⟩ := hl _ _ us h
    rw [List.length_replicate] at h1 h2
    obtain ⟨l1, a1, a2, a3⟩ := fit_list k _ h1
    obtain ⟨l2, b1, b2, b3⟩ := fitL_intsR n k _ h2
    refine ⟨l1 ++ l2, by rw [List.length_append, a1, b1, Nat.add_mul]; omega, ?_, fun a ha => ?_⟩
    · rw [List.map_append, ← a2, ← b2, List.take_append_drop]
    · rcases List.mem_append.1 ha with h | h
      · exact a3 a h
      · exact b3 a h
theorem chop_mem (k : Nat) : ∀ n us, ∀ y ∈ chop k n us, ∀ a ∈ y, a ∈ us
  | 0, _, y, hy => by simp [chop] at hy
  | n + 1, us, y, hy => by
    intro a ha
    rcases List.mem_cons.1 hy with rfl | h1
    · exact List.mem_of_mem_take ha
    · exact List.mem_of_mem_drop (chop_mem k n _ y h1 a ha)
section
variable {H : Type} {enc : TypeId × Value → H} {w : World} {base : Nat} {spare : Nat → Bool} {held : Bool}
set_option maxRecDepth 100000 in
theorem open_argR {r : Reach} {b0 : Nat} {t e : TypeId} {k : Nat} {v : Value} {d : DataW H} {ps : List MemPlace} (ht : Try.prog.underlying t = some (.slice e)) (hk : SX.kindsP Try.prog 8 e = some (List.replicate k (some .i64))) (hs : k = Try.prog.cellsOf e) (h0 : 0 < k)
    (hval : Value.okWide Try.prog w r b0 t v) (hd : DataW.Trod enc Try.prog w base spare held t v d ps) : ∃ a n c l, v = .slice a n c ∧ Arg k w a n l ∧ ∀ y ∈ l, ∀ a ∈ y, -9223372036854775808 ≤ a ∧ a ≤ 9223372036854775807 := by
  rcases SX.open_slice ht hk (by rw [List.length_replicate]; exact hs) (by rw [List.length_replicate]; exact h0) hval hd with h | ⟨a, c, h⟩ | ⟨b, off, n, cap, us, h, hn, hc, hm, hb, hf, hcell⟩
  · exact ⟨_, _, _, [], h, ⟨rfl, by simp, by omega, .inl rfl⟩, by simp⟩
  · exact ⟨_, _, _, [], h, ⟨rfl, by simp, by omega, .inl rfl⟩, by simp⟩
  · obtain ⟨l, hl, rfl, hr⟩ := fitL_intsR n k us hf
    refine ⟨_, n, cap, chop k n l, h, ⟨chop_len k n l, chop_nine k n l hl, by omega, .inr ⟨b, off, rfl, hb, ⟨fun i hi => ?_⟩⟩⟩, fun y hy a ha => hr a (chop_mem k n l y hy a ha)⟩
    have hi' : i < l.length := by rw [hl, Nat.mul_comm]; exact hi
    rw [chop_at k h0 n l hl i hi]
    refine hcell i _ ?_
    rw [List.getElem?_map, List.getElem?_eq_getElem hi']
    simp [List.getD_eq_getElem?_getD, hi']
end
theorem ins_front (x : Sam) : ∀ l : List Sam, (∀ z ∈ l, lt z x = false) → ins x l = x :: l
  | [], _ => rfl
  | y :: r, h => by unfold ins; rw [h y (List.mem_cons_self ..)]; rfl
theorem ins_drop (x : Sam) : ∀ (L : List Sam) (k : Nat), Sorted L → k ≤ L.length → (ins x (L.drop k)).tail = (ins x L).drop (k + 1)
  | L, 0, _, _ => by rw [List.drop_zero, Nat.zero_add, List.drop_one]
  | [], k + 1, _, h => by simp at h
  | y :: r, k + 1, hs, h => by
    unfold Sorted at hs
    rw [List.pairwise_cons] at hs
    rw [List.drop_succ_cons]
    rw [show ins x (y :: r) = bif lt y x then y :: ins x r else x :: y :: r from rfl]
    cases hy : lt y x
    · rw [cond_false, List.drop_succ_cons, List.drop_succ_cons, ins_front x _ fun z hz => ge_trans hy (hs.1 z (List.mem_of_mem_drop hz))]
      rfl
    · rw [cond_true, List.drop_succ_cons]
      exact ins_drop x r k hs.2 (by simp at h; omega)
theorem put_hor (b : Ring) (x : Sam) : (b.put x).hor = b.hor := by
  unfold Ring.put
  split
  · rfl
  · split <;> rfl
theorem last_puts (z : Nat) : ∀ (l : List Sam) (R Q : Ring), R.size = z → Q.l.length + l.length ≤ Q.size → Sorted Q.l → R.hor = Q.hor → R.l = Q.l.drop (Q.l.length - z) → (R.puts l).l = ((Q.puts l).l).drop ((Q.puts l).l.length - z)
  | [], _, _, _, _, _, _, h => h
  | x :: t, R, Q, h1, h2, h3, h4, h5 => by
    rw [List.length_cons] at h2
    have hz : (R.put x).size = z := by unfold Ring.put; split; exact h1; split <;> exact h1
    have hq := put_len Q x (by omega)
    refine last_puts z t (R.put x) (Q.put x) hz (by omega) ?_ (by rw [put_hor, put_hor, h4]) ?_
    · unfold Ring.put
      split
      · exact h3
      · split
        · exact ins_sorted x _ h3
        · rename_i hc; rw [ins_len] at hc; omega
    · unfold Ring.put
      rw [h4]
      by_cases hc : fn x 0 ≤ Q.hor
      · rw [if_pos hc, if_pos hc]; exact h5
      · rw [if_neg hc, if_neg hc, if_pos (show (ins x Q.l).length ≤ Q.size by rw [ins_len]; omega)]
        have hlen : R.l.length = Q.l.length - (Q.l.length - z) := by rw [h5, List.length_drop]
        by_cases hd : (ins x R.l).length ≤ R.size
        · rw [if_pos hd]
          rw [ins_len, h1] at hd
          show ins x R.l = (ins x Q.l).drop ((ins x Q.l).length - z)
          rw [ins_len, show Q.l.length + 1 - z = 0 by omega, List.drop_zero, h5, show Q.l.length - z = 0 by omega, List.drop_zero]
        · rw [if_neg hd]
          rw [ins_len, h1] at hd
          show (ins x R.l).tail = (ins x Q.l).drop ((ins x Q.l).length - z)
          rw [h5, ins_drop x Q.l _ h3 (by omega), ins_len]
          congr 1; omega
theorem put_mem (b : Ring) (x y : Sam) (h : y ∈ (b.put x).l) : y = x ∨ y ∈ b.l := by
  unfold Ring.put at h
  split at h
  · exact .inr h
  · split at h
    · exact (ins_mem x _).1 h
    · exact (ins_mem x _).1 (List.mem_of_mem_tail h)
theorem puts_mem (y : Sam) : ∀ (l : List Sam) (b : Ring), y ∈ (b.puts l).l → y ∈ l ∨ y ∈ b.l
  | [], _, h => .inr h
  | x :: t, b, h => by
    rcases puts_mem y t _ h with h | h
    · exact .inl (List.mem_cons_of_mem _ h)
    · rcases put_mem b x y h with rfl | h
      · exact .inl (List.mem_cons_self ..)
      · exact .inr h
theorem come_all (u : Int) : ∀ l : List Sam, (∀ y ∈ l, fn y 0 ≤ u) → come u l = l.length
  | [], _ => rfl
  | y :: r, h => by unfold come; rw [if_pos (h y (List.mem_cons_self ..)), come_all u r fun z hz => h z (List.mem_cons_of_mem _ hz)]; rfl
theorem fn_le (y : Sam) (h : ∀ a ∈ y, -9223372036854775808 ≤ a ∧ a ≤ 9223372036854775807) : fn y 0 ≤ 9223372036854775807 := by
  cases y with
  | nil => show (0 : Int) ≤ _; omega
  | cons a r => exact (h a (List.mem_cons_self ..)).2
/-- What the ring holds, and what the document's own holds. -/
theorem latest_of (z n : Nat) (l : List Sam) (hl : l.length = n) (hn : n ≤ 150) (hr : ∀ y ∈ l, ∀ a ∈ y, -9223372036854775808 ≤ a ∧ a ≤ 9223372036854775807) :
    ((Ring.new z).puts l).l = ((Ring.new 192).puts l).l.drop (((Ring.new 192).puts l).l.length - z) ∧ come 9223372036854775807 ((Ring.new z).puts l).l = ((Ring.new z).puts l).l.length :=
  ⟨last_puts z l _ _ rfl (by show 0 + l.length ≤ 192; omega) (by simp [Sorted, Ring.new]) rfl (by simp [Ring.new]),
   come_all _ _ fun y hy => by
    rcases puts_mem y l _ hy with h | h
    · exact fn_le y (hr y h)
    · simp [Ring.new] at h⟩
end Go.Proofs.Ytdndomknjefgkaa.Rg
