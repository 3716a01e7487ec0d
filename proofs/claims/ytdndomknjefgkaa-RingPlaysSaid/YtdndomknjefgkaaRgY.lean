/- The order in which samples are put in makes no difference. Numbers alone. -/
import Derived.Test.YtdndomknjefgkaaRgX
namespace Go.Proofs.Ytdndomknjefgkaa.Rg
open Go.RowKit
theorem ins_comm (x y : Sam) : ∀ l, ins x (ins y l) = ins y (ins x l)
  | [] => by
    simp only [ins]
    cases h1 : lt x y
    · cases h2 : lt y x
      · rw [lt_tri x y h1 h2]
      · rfl
    · rw [lt_asymm x y h1]; rfl
  | z :: r => by
    have ih := ins_comm x y r
    cases hx : lt z x <;> cases hy : lt z y
    · simp only [ins, hx, hy, cond_false]
      cases h1 : lt x y
      · cases h2 : lt y x
        · rw [lt_tri x y h1 h2]
        · simp
      · rw [lt_asymm x y h1]
        simp
    · have h1 : lt x y = true := lt_of_ge_lt (x := x) (y := z) (z := y) hx hy
      simp [ins, hx, hy, h1]
    · have h1 : lt y x = true := lt_of_ge_lt (x := y) (y := z) (z := x) hy hx
      simp [ins, hx, hy, h1]
    · simp only [ins, hx, hy, cond_true]
      rw [ih]
theorem put_comm (b : Ring) (x y : Sam) (h : b.l.length + 2 ≤ b.size) : (b.put x).put y = (b.put y).put x := by
  have e1 := ins_len x b.l
  have e2 := ins_len y b.l
  have e3 := ins_len y (ins x b.l)
  have e4 := ins_len x (ins y b.l)
  have hxx : b.put x = if fn x 0 ≤ b.hor then { b with cIn := b.cIn + 1, late := b.late + 1 } else { b with cIn := b.cIn + 1, l := ins x b.l } := by
    unfold Ring.put
    by_cases hc : fn x 0 ≤ b.hor
    · rw [if_pos hc, if_pos hc]
    · rw [if_neg hc, if_neg hc, if_pos (by omega)]
  have hyy : b.put y = if fn y 0 ≤ b.hor then { b with cIn := b.cIn + 1, late := b.late + 1 } else { b with cIn := b.cIn + 1, l := ins y b.l } := by
    unfold Ring.put
    by_cases hc : fn y 0 ≤ b.hor
    · rw [if_pos hc, if_pos hc]
    · rw [if_neg hc, if_neg hc, if_pos (by omega)]
  rw [hxx, hyy]
  by_cases hx : fn x 0 ≤ b.hor <;> by_cases hy : fn y 0 ≤ b.hor
  · rw [if_pos hx, if_pos hy]; unfold Ring.put; rw [if_pos hx, if_pos hy]
  · rw [if_pos hx, if_neg hy]; unfold Ring.put; rw [if_neg hy, if_pos hx, if_pos (show (ins y b.l).length ≤ b.size by omega)]
  · rw [if_neg hx, if_pos hy]; unfold Ring.put; rw [if_pos hy, if_neg hx, if_pos (show (ins x b.l).length ≤ b.size by omega)]
  · rw [if_neg hx, if_neg hy]; unfold Ring.put; rw [if_neg hx, if_neg hy]
    simp only
    rw [if_pos (show (ins y (ins x b.l)).length ≤ b.size by omega), if_pos (show (ins x (ins y b.l)).length ≤ b.size by omega), ins_comm]
theorem put_len (b : Ring) (x : Sam) (_h : b.l.length + 1 ≤ b.size) : (b.put x).l.length ≤ b.l.length + 1 ∧ (b.put x).size = b.size := by
  unfold Ring.put
  split
  · exact ⟨by show b.l.length ≤ _; omega, rfl⟩
  · split
    · exact ⟨by show (ins x b.l).length ≤ _; rw [ins_len]; omega, rfl⟩
    · exact ⟨by show (ins x b.l).tail.length ≤ _; rw [List.length_tail, ins_len]; omega, rfl⟩
theorem puts_perm {l m : List Sam} (h : l.Perm m) : ∀ (b : Ring), b.l.length + l.length ≤ b.size → b.puts l = b.puts m := by
  induction h with
  | nil => intro b _; rfl
  | cons x _ ih =>
    intro b hb
    simp only [Ring.puts]
    simp only [List.length_cons] at hb
    obtain ⟨h1, h2⟩ := put_len b x (by omega)
    exact ih _ (by omega)
  | swap x y l =>
    intro b hb
    simp only [Ring.puts]
    simp only [List.length_cons] at hb
    rw [put_comm b y x (by omega)]
  | trans h1 _ ih1 ih2 =>
    intro b hb
    rw [ih1 b hb, ih2 b (by rw [← h1.length_eq]; exact hb)]
/-- Backwards, from some place on. -/
def rev (l : List Sam) (n t : Nat) : List Sam := (List.range n).map fun i => l.getD ((n - 1 - i + t) % n) []
theorem rot_perm (n t : Nat) (hn : 0 < n) : ((List.range n).map fun i => (i + t) % n).Perm (List.range n) := by
  have hs : t % n < n := Nat.mod_lt _ hn
  have e : ((List.range n).map fun i => (i + t) % n) = (List.range' (t % n) (n - t % n)) ++ List.range (t % n) := by
    refine List.ext_getElem (by simp; omega) fun i h1 h2 => ?_
    simp at h1
    rw [List.getElem_append]
    have em : (i + t) % n = (i + t % n) % n := by rw [Nat.add_mod, Nat.add_mod i (t % n), Nat.mod_mod]
    by_cases hi : i < n - t % n
    · rw [dif_pos (by simpa using hi)]
      simp only [List.getElem_map, List.getElem_range, List.getElem_range', em]
      rw [Nat.mod_eq_of_lt (by omega)]; omega
    · rw [dif_neg (by simpa using hi)]
      simp only [List.getElem_map, List.getElem_range, List.length_range', em]
      rw [Nat.mod_eq_sub_mod (by omega), Nat.mod_eq_of_lt (by omega)]; omega
  rw [e]
  refine (List.perm_append_comm).trans ?_
  have e2 : List.range n = List.range (t % n) ++ List.range' (t % n) (n - t % n) := by
    refine List.ext_getElem (by simp; omega) fun i h1 h2 => ?_
    rw [List.getElem_append]
    by_cases hi : i < t % n
    · rw [dif_pos (by simpa using hi)]; simp
    · rw [dif_neg (by simpa using hi)]; simp; omega
  rw [e2]
theorem rev_perm (l : List Sam) (n t : Nat) (hl : l.length = n) : (rev l n t).Perm l := by
  rcases Nat.eq_zero_or_pos n with rfl | hn
  · have : l = [] := List.eq_nil_of_length_eq_zero hl
    subst this; exact List.Perm.refl _
  · have e1 : rev l n t = (((List.range n).map fun i => (i + t) % n).reverse).map fun j => l.getD j [] := by
      unfold rev
      refine List.ext_getElem (by simp) fun i h1 h2 => ?_
      simp at h1
      simp
    have e2 : l = (List.range n).map fun j => l.getD j [] := by
      refine List.ext_getElem (by simp [hl]) fun i h1 h2 => ?_
      simp [h1]
    rw [e1]
    conv => rhs; rw [e2]
    exact (((List.reverse_perm _).trans (rot_perm n t hn))).map _
theorem rev_len (l : List Sam) (n t : Nat) : (rev l n t).length = n := by simp [rev]
theorem and_1023 (x : Int) : ∃ t : Nat, bits .and .i64 x 1023 = (t : Int) ∧ t ≤ 1023 := by
  refine ⟨(BitVec.ofInt 64 x &&& BitVec.ofInt 64 1023).toNat, ?_, ?_⟩
  · show IntKind.i64.wrap ((BitVec.ofInt 64 x &&& BitVec.ofInt 64 1023).toNat : Int) = _
    have h : (BitVec.ofInt 64 x &&& BitVec.ofInt 64 1023).toNat ≤ 1023 := by
      rw [BitVec.toNat_and]; exact Nat.and_le_right
    rw [IntKind.wrap_i64]; omega
  · rw [BitVec.toNat_and]; exact Nat.and_le_right
end Go.Proofs.Ytdndomknjefgkaa.Rg
