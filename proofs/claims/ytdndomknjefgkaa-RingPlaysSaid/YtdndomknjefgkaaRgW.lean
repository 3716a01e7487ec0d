/- Slices of samples that come in. -/
import Derived.Test.YtdndomknjefgkaaRgV
namespace Go.Proofs.Ytdndomknjefgkaa.Rg
open Go.RowKit
/-- Lists of rows of k numbers: one behind another. -/
def flk (k : Nat) (l : List Sam) (q : Nat) : Int := (l.getD (q / k) []).getD (q % k) 0
theorem flk_at (k : Nat) (l : List Sam) (i j : Nat) (hj : j < k) : flk k l (k * i + j) = fn (l.getD i []) j := by
  unfold flk fn
  rw [Nat.mul_add_div (by omega), Nat.div_eq_of_lt hj, Nat.add_zero, Nat.mul_add_mod, Nat.mod_eq_of_lt hj]
theorem flk_nine (l : List Sam) (q : Nat) : flk 9 l q = fl l q := rfl
/-- A slice of rows of k numbers. -/
structure Arg (k : Nat) (w : World) (a : Option Addr) (n : Nat) (l : List Sam) : Prop where
  len : l.length = n
  nine : ∀ y ∈ l, y.length = k
  big : n ≤ 9223372036854775807
  at_ : n = 0 ∨ ∃ g o, a = some ⟨g, o, none⟩ ∧ g < w.heap.size ∧ Ints w g o (k * n) (flk k l)
def chop (k : Nat) : Nat → List Int → List Sam
  | 0, _ => []
  | n + 1, us => us.take k :: chop k n (us.drop k)
theorem chop_len (k : Nat) : ∀ n us, (chop k n us).length = n
  | 0, _ => rfl
  | n + 1, us => by simp [chop, chop_len k n]
theorem chop_nine (k : Nat) : ∀ n us, us.length = n * k → ∀ y ∈ chop k n us, y.length = k
  | 0, _, _, y, hy => by simp [chop] at hy
  | n + 1, us, h, y, hy => by
    rw [Nat.add_mul, Nat.one_mul] at h
    rcases List.mem_cons.1 hy with rfl | h1
    · rw [List.length_take]; omega
    · exact chop_nine k n _ (by rw [List.length_drop]; omega) y h1
theorem chop_at (k : Nat) (hk : 0 < k) : ∀ n us, us.length = n * k → ∀ q, q < k * n → flk k (chop k n us) q = us.getD q 0
  | 0, _, _, q, hq => by simp at hq
  | n + 1, us, h, q, hq => by
    rw [Nat.add_mul, Nat.one_mul] at h
    unfold flk chop
    by_cases h1 : q < k
    · rw [Nat.div_eq_of_lt h1, Nat.mod_eq_of_lt h1]
      simp [List.getD_eq_getElem?_getD, List.getElem?_take_of_lt h1]
    · have hq' : q - k < k * n := by rw [Nat.mul_add, Nat.mul_one] at hq; omega
      have ih := chop_at k hk n (us.drop k) (by rw [List.length_drop]; omega) (q - k) hq'
      unfold flk at ih
      have e1 : q / k = (q - k) / k + 1 := by
        have := Nat.add_div_right (q - k) hk
        rwa [Nat.sub_add_cancel (by omega)] at this
      have e2 : q % k = (q - k) % k := by
        have := Nat.add_mod_right (q - k) k
        rwa [Nat.sub_add_cancel (by omega)] at this
      rw [e1, e2, List.getD_cons_succ, ih]
      simp only [List.getD_eq_getElem?_getD, List.getElem?_drop]
      rw [Nat.add_sub_cancel' (by omega)]
theorem fitL_ints : ∀ (n k : Nat) (us : List Value), SX.FitL (SX.repL (List.replicate k (some IntKind.i64)) n) us → ∃ l : List Int, l.length = n * k ∧ us = l.map (Value.int .i64)
  | 0, k, us, h => by
    cases us with
    | nil => exact ⟨[], by simp, rfl⟩
    | cons _ _ => exact h.elim
  | n + 1, k, us, h => by
    have hl : ∀ (ks ls : List (Option IntKind)) (us : List Value), SX.FitL (ks ++ ls) us → SX.FitL ks (us.take ks.length) ∧ SX.FitL ls (us.drop ks.length) := by
      intro ks
      induction ks with
      | nil => intro ls us h; exact ⟨by simp [SX.FitL], h⟩
      | cons a ks ih =>
        intro ls us h
        cases us with
        | nil => exact h.elim
        | cons u us =>
          obtain ⟨h1, h2⟩ := h
          obtain ⟨h3, h4⟩ := ih ls us h2
          exact ⟨⟨h1, h3⟩, h4⟩
    obtain ⟨h1, h2⟩ := hl _ _ us h
    rw [List.length_replicate] at h1 h2
    obtain ⟨l1, a1, a2, _⟩ := fit_list k _ h1
    obtain ⟨l2, b1, b2⟩ := fitL_ints n k _ h2
    refine ⟨l1 ++ l2, by rw [List.length_append, a1, b1, Nat.add_mul]; omega, ?_⟩
    rw [List.map_append, ← a2, ← b2, List.take_append_drop]
section
variable {H : Type} {enc : TypeId × Value → H} {w : World} {base : Nat} {spare : Nat → Bool} {held : Bool}
set_option maxRecDepth 100000 in
theorem open_arg {r : Reach} {b0 : Nat} {t e : TypeId} {k : Nat} {v : Value} {d : DataW H} {ps : List MemPlace} (ht : Try.prog.underlying t = some (.slice e)) (hk : SX.kindsP Try.prog 8 e = some (List.replicate k (some .i64))) (hs : k = Try.prog.cellsOf e) (h0 : 0 < k)
    (hval : Value.okWide Try.prog w r b0 t v) (hd : DataW.Trod enc Try.prog w base spare held t v d ps) : ∃ a n c l, v = .slice a n c ∧ Arg k w a n l := by
  rcases SX.open_slice ht hk (by rw [List.length_replicate]; exact hs) (by rw [List.length_replicate]; exact h0) hval hd with h | ⟨a, c, h⟩ | ⟨b, off, n, cap, us, h, hn, hc, hm, hb, hf, hcell⟩
  · exact ⟨_, _, _, [], h, rfl, by simp, by omega, .inl rfl⟩
  · exact ⟨_, _, _, [], h, rfl, by simp, by omega, .inl rfl⟩
  · obtain ⟨l, hl, rfl⟩ := fitL_ints n k us hf
    refine ⟨_, n, cap, chop k n l, h, chop_len k n l, chop_nine k n l hl, by omega, .inr ⟨b, off, rfl, hb, ⟨fun i hi => ?_⟩⟩⟩
    have hi' : i < l.length := by rw [hl, Nat.mul_comm]; exact hi
    rw [chop_at k h0 n l hl i hi]
    refine hcell i _ ?_
    rw [List.getElem?_map, List.getElem?_eq_getElem hi']
    simp [List.getD_eq_getElem?_getD, hi']
end
theorem Arg.below {k : Nat} {w w' : World} {a : Option Addr} {n : Nat} {l : List Sam} (h : Arg k w a n l) (K : Below w.heap.size w w') : Arg k w' a n l := by
  refine ⟨h.len, h.nine, h.big, ?_⟩
  rcases h.at_ with h0 | ⟨g, o, e, hg, hi⟩
  · exact .inl h0
  · exact .inr ⟨g, o, e, Nat.lt_of_lt_of_le hg K.size, hi.below K hg⟩
/-- One of them. -/
theorem Arg.one {k : Nat} {w : World} {a : Option Addr} {n : Nat} {l : List Sam} (h : Arg k w a n l) {i : Nat} (hi : i < n) : ∃ g o x, a = some ⟨g, o, none⟩ ∧ x = l.getD i [] ∧ x.length = k ∧ g < w.heap.size ∧ Ints w g (o + i * k) k (fn x) := by
  rcases h.at_ with h0 | ⟨g, o, e, hg, hI⟩
  · omega
  · refine ⟨g, o, _, e, rfl, ?_, hg, ⟨fun j hj => ?_⟩⟩
    · simp only [List.getD_eq_getElem?_getD, List.getElem?_eq_getElem (show i < l.length by rw [h.len]; exact hi), Option.getD_some]
      exact h.nine _ (List.getElem_mem _)
    · have hlt : k * i + j < k * n := by
        have : k * i + k ≤ k * n := by rw [← Nat.mul_succ]; exact Nat.mul_le_mul_left _ hi
        omega
      rw [Nat.add_assoc, Nat.mul_comm i k, hI.at_ _ hlt, flk_at k l i j hj]
end Go.Proofs.Ytdndomknjefgkaa.Rg
