/- Samples as lists of nine numbers, their order; lists of them, sorted; what a buffer does. Numbers alone. -/
import Derived.Test.YtdndomknjefgkaaRgA
namespace Go.Proofs.Ytdndomknjefgkaa.Rg
open Go.RowKit

abbrev Sam := List Int
/-- Does a sample stand ahead of another? -/
def lt : Sam → Sam → Bool
  | [], [] => false
  | [], _ :: _ => true
  | _ :: _, [] => false
  | a :: x, b :: y => if a = b then lt x y else decide (a < b)
theorem lt_irr : ∀ x, lt x x = false
  | [] => rfl
  | a :: x => by simp [lt, lt_irr x]
theorem lt_asymm : ∀ x y, lt x y = true → lt y x = false
  | [], [], _ => rfl
  | [], _ :: _, _ => rfl
  | _ :: _, [], h => by simp [lt] at h
  | a :: x, b :: y, h => by
    unfold lt at h ⊢
    by_cases e : a = b
    · rw [if_pos e] at h; rw [if_pos e.symm]; exact lt_asymm x y h
    · rw [if_neg e] at h; rw [if_neg (Ne.symm e)]; simp at h ⊢; omega
theorem lt_tri : ∀ x y, lt x y = false → lt y x = false → x = y
  | [], [], _, _ => rfl
  | [], _ :: _, h, _ => by simp [lt] at h
  | _ :: _, [], _, h => by simp [lt] at h
  | a :: x, b :: y, h, k => by
    unfold lt at h k
    by_cases e : a = b
    · rw [if_pos e] at h; rw [if_pos e.symm] at k; rw [e, lt_tri x y h k]
    · rw [if_neg e] at h; rw [if_neg (Ne.symm e)] at k; simp at h k; omega
theorem lt_trans : ∀ x y z, lt x y = true → lt y z = true → lt x z = true
  | [], [], _, h, _ => by simp [lt] at h
  | [], _ :: _, [], _, k => by simp [lt] at k
  | [], _ :: _, _ :: _, _, _ => rfl
  | _ :: _, [], _, h, _ => by simp [lt] at h
  | _ :: _, _ :: _, [], _, k => by simp [lt] at k
  | a :: x, b :: y, c :: z, h, k => by
    unfold lt at h k ⊢
    by_cases e : a = b
    · rw [if_pos e] at h
      by_cases f : b = c
      · rw [if_pos f] at k; rw [if_pos (e.trans f)]; exact lt_trans x y z h k
      · rw [if_neg f] at k; rw [if_neg (by omega)]; simp at k ⊢; omega
    · rw [if_neg e] at h
      by_cases f : b = c
      · rw [if_pos f] at k; rw [if_neg (by omega)]; simp at h ⊢; omega
      · rw [if_neg f] at k; simp at h k; rw [if_neg (by omega)]; simp; omega
/-- Not ahead, and ahead: ahead. -/
theorem lt_of_ge_lt {x y z : Sam} (h : lt y x = false) (k : lt y z = true) : lt x z = true := by
  cases hx : lt x y
  · rw [lt_tri x y hx h]; exact k
  · exact lt_trans x y z hx k
theorem lt_of_lt_ge {x y z : Sam} (h : lt x y = true) (k : lt z y = false) : lt x z = true := by
  cases hx : lt y z
  · rw [← lt_tri y z hx k]; exact h
  · exact lt_trans x y z h hx
theorem ge_trans {x y z : Sam} (h : lt y x = false) (k : lt z y = false) : lt z x = false := by
  cases hx : lt z x
  · rfl
  · rw [lt_of_lt_ge hx h] at k; cases k
/-- How a sample compares with another: as the library's Compare says. -/
def cmpS (x y : Sam) : Int := if lt x y then -1 else if lt y x then 1 else 0
theorem cmpS_neg (x y : Sam) : cmpS x y < 0 ↔ lt x y = true := by
  unfold cmpS
  cases lt x y <;> cases lt y x <;> simp
def Sorted (l : List Sam) : Prop := l.Pairwise fun a b => lt b a = false
/-- A sample goes in, ahead of those that do not stand ahead of it. -/
def ins (x : Sam) : List Sam → List Sam
  | [] => [x]
  | y :: r => bif lt y x then y :: ins x r else x :: y :: r
/-- .. behind all that it does not stand ahead of. -/
def insU (x : Sam) : List Sam → List Sam
  | [] => [x]
  | y :: r => bif lt x y then x :: y :: r else y :: insU x r
theorem ins_len (x : Sam) : ∀ l, (ins x l).length = l.length + 1
  | [] => rfl
  | y :: r => by unfold ins; cases lt y x <;> simp [ins_len x r]
theorem ins_mem (x : Sam) {z : Sam} : ∀ l, z ∈ ins x l ↔ z = x ∨ z ∈ l
  | [] => by simp [ins]
  | y :: r => by
    unfold ins
    cases lt y x
    · simp
    · simp only [cond_true, List.mem_cons, ins_mem x r]
      constructor
      · rintro (h | h | h) <;> simp [h]
      · rintro (h | h | h) <;> simp [h]
theorem ins_sorted (x : Sam) : ∀ l, Sorted l → Sorted (ins x l)
  | [], _ => by simp [ins, Sorted]
  | y :: r, h => by
    unfold Sorted at h
    rw [List.pairwise_cons] at h
    unfold ins
    cases hy : lt y x
    · simp only [cond_false]
      unfold Sorted
      rw [List.pairwise_cons, List.pairwise_cons]
      refine ⟨fun z hz => ?_, h⟩
      rcases List.mem_cons.1 hz with rfl | hz
      · exact hy
      · exact ge_trans hy (h.1 z hz)
    · simp only [cond_true]
      unfold Sorted
      rw [List.pairwise_cons]
      refine ⟨fun z hz => ?_, ins_sorted x r h.2⟩
      rcases (ins_mem x r).1 hz with rfl | hz
      · exact lt_asymm _ _ hy
      · exact h.1 z hz
theorem insU_head (x : Sam) : ∀ r, Sorted (x :: r) → insU x r = x :: r
  | [], _ => rfl
  | z :: s, h => by
    unfold Sorted at h
    rw [List.pairwise_cons, List.pairwise_cons] at h
    unfold insU
    cases hz : lt x z
    · have e : x = z := lt_tri _ _ hz (h.1 z (List.mem_cons_self ..))
      subst e
      simp only [cond_false]
      rw [insU_head x s (by unfold Sorted; rw [List.pairwise_cons]; exact h.2)]
    · rfl
theorem ins_insU (x : Sam) : ∀ l, Sorted l → insU x l = ins x l
  | [], _ => rfl
  | y :: r, h => by
    have h0 := h
    unfold Sorted at h
    rw [List.pairwise_cons] at h
    unfold insU ins
    cases hy : lt y x
    · cases hx : lt x y
      · have e : x = y := lt_tri _ _ hx hy
        subst e
        simp only [cond_false]
        rw [insU_head x r h0]
      · rfl
    · rw [lt_asymm _ _ hy]
      simp only [cond_true, cond_false]
      rw [ins_insU x r h.2]
/-- Where it goes in. -/
def cnt (x : Sam) (l : List Sam) : Nat := l.countP fun y => lt y x
theorem cnt_le (x : Sam) (l : List Sam) : cnt x l ≤ l.length := List.countP_le_length
theorem ins_at (x : Sam) : ∀ l, Sorted l → ins x l = l.take (cnt x l) ++ x :: l.drop (cnt x l)
  | [], _ => rfl
  | y :: r, h => by
    unfold Sorted at h
    rw [List.pairwise_cons] at h
    unfold ins
    cases hy : lt y x
    · have e : cnt x (y :: r) = 0 := by
        unfold cnt
        rw [List.countP_eq_zero]
        intro z hz
        rcases List.mem_cons.1 hz with rfl | hz
        · simp [hy]
        · cases hzx : lt z x
          · simp
          · have := lt_of_ge_lt (h.1 z hz) hzx
            rw [this] at hy; cases hy
      rw [e]; rfl
    · have e : cnt x (y :: r) = cnt x r + 1 := by unfold cnt; exact List.countP_cons_of_pos (p := fun z => lt z x) hy
      rw [e, List.take_succ_cons, List.drop_succ_cons, List.cons_append, ← ins_at x r h.2]
      rfl
theorem cnt_mono (x : Sam) (l : List Sam) (hs : Sorted l) (a b : Nat) (hab : a ≤ b) (hb : b < l.length) (h : cmpS (l[b]!) x < 0) : cmpS (l[a]!) x < 0 := by
  rw [cmpS_neg] at h ⊢
  rcases Nat.lt_or_ge a b with h1 | h1
  · have := (List.pairwise_iff_getElem.1 hs) a b (by omega) hb h1
    rw [getElem!_pos l a (by omega)]
    rw [getElem!_pos l b hb] at h
    exact lt_of_ge_lt this h
  · have : a = b := by omega
    subst this; exact h
theorem cnt_is (x : Sam) (l : List Sam) (i : Nat) (hi : i ≤ l.length) (h1 : ∀ t, t < i → cmpS (l[t]!) x < 0) (h2 : ∀ t, i ≤ t → t < l.length → 0 ≤ cmpS (l[t]!) x) : cnt x l = i := by
  unfold cnt
  have e : l.countP (fun y => lt y x) = (l.take i ++ l.drop i).countP (fun y => lt y x) := by rw [List.take_append_drop]
  rw [e, List.countP_append]
  have a : (l.take i).countP (fun y => lt y x) = (l.take i).length := List.countP_eq_length.2 fun y hy => by
    obtain ⟨t, ht, rfl⟩ := List.getElem_of_mem hy
    rw [List.length_take] at ht
    have := h1 t (by omega)
    rw [cmpS_neg, getElem!_pos l t (by omega)] at this
    rw [List.getElem_take]; exact this
  have b : (l.drop i).countP (fun y => lt y x) = 0 := List.countP_eq_zero.2 fun y hy => by
    obtain ⟨t, ht, rfl⟩ := List.getElem_of_mem hy
    rw [List.length_drop] at ht
    have := h2 (i + t) (by omega) (by omega)
    rw [List.getElem_drop]
    intro hc
    rw [← cmpS_neg] at hc
    rw [getElem!_pos l (i + t) (by omega)] at this
    omega
  rw [a, b, List.length_take]
  omega
/-- The numbers of a list of samples, one behind another. -/
def fl (l : List Sam) (q : Nat) : Int := (l.getD (q / 9) []).getD (q % 9) 0
def fn (x : Sam) (j : Nat) : Int := x.getD j 0
theorem fl_at (l : List Sam) (i j : Nat) (hj : j < 9) : fl l (9 * i + j) = fn (l.getD i []) j := by
  unfold fl fn
  rw [show (9 * i + j) / 9 = i by omega, show (9 * i + j) % 9 = j by omega]
theorem fl_ins (l : List Sam) (x : Sam) (i : Nat) (hi : i ≤ l.length) (q : Nat) :
    fl (l.take i ++ x :: l.drop i) q = if q < 9 * i then fl l q else if q < 9 * i + 9 then fn x (q - 9 * i) else fl l (q - 9) := by
  unfold fl fn
  by_cases h1 : q < 9 * i
  · rw [if_pos h1]
    congr 1
    simp only [List.getD_eq_getElem?_getD]
    rw [List.getElem?_append_left (by simp; omega), List.getElem?_take_of_lt (by omega)]
  · rw [if_neg h1]
    by_cases h2 : q < 9 * i + 9
    · rw [if_pos h2, show q % 9 = q - 9 * i by omega, show q / 9 = i by omega]
      congr 1
      simp only [List.getD_eq_getElem?_getD]
      rw [List.getElem?_append_right (by simp; omega)]
      simp [Nat.min_eq_left hi]
    · rw [if_neg h2, show (q - 9) % 9 = q % 9 by omega, show (q - 9) / 9 = q / 9 - 1 by omega]
      congr 1
      simp only [List.getD_eq_getElem?_getD]
      rw [List.getElem?_append_right (by simp; omega), List.length_take, Nat.min_eq_left hi]
      rw [show q / 9 - i = (q / 9 - 1 - i) + 1 by omega, List.getElem?_cons_succ, List.getElem?_drop]
      congr 2
      omega
theorem fl_drop (l : List Sam) (m q : Nat) : fl (l.drop m) q = fl l (q + 9 * m) := by
  unfold fl
  rw [show (q + 9 * m) % 9 = q % 9 by omega, show (q + 9 * m) / 9 = m + q / 9 by omega]
  simp only [List.getD_eq_getElem?_getD, List.getElem?_drop]
theorem fl_take (l : List Sam) (m q : Nat) (h : q < 9 * m) : fl (l.take m) q = fl l q := by
  unfold fl
  simp only [List.getD_eq_getElem?_getD]
  rw [List.getElem?_take_of_lt (by omega)]
theorem fl_snoc (l : List Sam) (x : Sam) (q : Nat) : fl (l ++ [x]) q = if q < 9 * l.length then fl l q else if q < 9 * l.length + 9 then fn x (q - 9 * l.length) else 0 := by
  have h := fl_ins l x l.length (Nat.le_refl _) q
  rw [List.take_length, List.drop_length] at h
  rw [h]
  by_cases h1 : q < 9 * l.length
  · rw [if_pos h1, if_pos h1]
  · rw [if_neg h1, if_neg h1]
    by_cases h2 : q < 9 * l.length + 9
    · rw [if_pos h2, if_pos h2]
    · rw [if_neg h2, if_neg h2]
      unfold fl
      simp only [List.getD_eq_getElem?_getD]
      have e : l[(q - 9) / 9]? = none := List.getElem?_eq_none (by omega)
      rw [e]; rfl
/-- A buffer: its samples, its counts (In, Late, Full, Bad, Out), its size, its horizon. -/
structure Ring where
  l : List Sam
  cIn : Nat
  late : Nat
  full : Nat
  bad : Nat
  out : Nat
  size : Nat
  hor : Int
def Ring.new (size : Nat) : Ring := ⟨[], 0, 0, 0, 0, 0, size, -9223372036854775808⟩
def Ring.put (b : Ring) (x : Sam) : Ring :=
  if fn x 0 ≤ b.hor then { b with cIn := b.cIn + 1, late := b.late + 1 }
  else if (ins x b.l).length ≤ b.size then { b with cIn := b.cIn + 1, l := ins x b.l }
  else { b with cIn := b.cIn + 1, full := b.full + 1, l := (ins x b.l).tail }
def Ring.putR (b : Ring) (x : Sam) : Bool :=
  if fn x 0 ≤ b.hor then false else if (ins x b.l).length ≤ b.size then true else !((ins x b.l).head?.getD [] == x)
def Ring.spoilt (b : Ring) : Ring := { b with cIn := b.cIn + 1, bad := b.bad + 1 }
/-- How many have come. -/
def come (upto : Int) : List Sam → Nat
  | [] => 0
  | y :: r => if fn y 0 ≤ upto then come upto r + 1 else 0
def Ring.pop (b : Ring) (upto : Int) : Ring := { b with l := b.l.drop (come upto b.l), out := b.out + come upto b.l, hor := max b.hor upto }
theorem come_le (u : Int) : ∀ l, come u l ≤ l.length
  | [] => Nat.le_refl _
  | y :: r => by unfold come; split <;> have := come_le u r <;> simp <;> omega
theorem come_in (u : Int) : ∀ l i, i < come u l → fn (l.getD i []) 0 ≤ u
  | [], i, h => by simp [come] at h
  | y :: r, 0, h => by
    unfold come at h
    split at h
    · rename_i h1; exact h1
    · omega
  | y :: r, i + 1, h => by
    unfold come at h
    split at h
    · have := come_in u r i (by omega); exact this
    · omega
theorem come_end (u : Int) : ∀ l, come u l < l.length → u < fn (l.getD (come u l) []) 0
  | [], h => by simp at h
  | y :: r, h => by
    unfold come at h ⊢
    split
    · rename_i h1
      rw [if_pos h1] at h
      simp only [List.length_cons] at h
      exact come_end u r (by omega)
    · simp; omega
end Go.Proofs.Ytdndomknjefgkaa.Rg
