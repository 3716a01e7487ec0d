/- What comes out of a buffer, and its horizon. Numbers alone. -/
import Derived.Test.YtdndomknjefgkaaRgLa
namespace Go.Proofs.Ytdndomknjefgkaa.Rg
open Go.RowKit
/-- All that is held lies above the horizon. -/
def High (b : Ring) : Prop := ∀ y ∈ b.l, b.hor < fn y 0
theorem lt_first {x y : Sam} (hx : x.length = 9) (hy : y.length = 9) (h : lt y x = false) : fn x 0 ≤ fn y 0 := by
  cases x with
  | nil => simp at hx
  | cons a x =>
    cases y with
    | nil => simp at hy
    | cons b y =>
      unfold lt at h
      show a ≤ b
      by_cases e : b = a
      · omega
      · rw [if_neg e] at h; simp at h; exact h
theorem put_high {b : Ring} (h : High b) (x : Sam) : High (b.put x) := by
  intro y hy
  rw [put_hor]
  by_cases hc : fn x 0 ≤ b.hor
  · unfold Ring.put at hy
    rw [if_pos hc] at hy
    exact h y hy
  · rcases put_mem b x y hy with rfl | h1
    · omega
    · exact h y h1
theorem puts_high : ∀ (l : List Sam) {b : Ring}, High b → High (b.puts l)
  | [], _, h => h
  | x :: t, _, h => puts_high t (put_high h x)
theorem come_rest (u : Int) : ∀ l : List Sam, Sorted l → (∀ y ∈ l, y.length = 9) → ∀ y ∈ l.drop (come u l), u < fn y 0
  | [], _, _, y, hy => by simp at hy
  | x :: r, hs, hn, y, hy => by
    unfold Sorted at hs
    rw [List.pairwise_cons] at hs
    unfold come at hy
    by_cases hx : fn x 0 ≤ u
    · rw [if_pos hx, List.drop_succ_cons] at hy
      exact come_rest u r hs.2 (fun z hz => hn z (List.mem_cons_of_mem _ hz)) y hy
    · rw [if_neg hx, List.drop_zero] at hy
      rcases List.mem_cons.1 hy with rfl | h1
      · omega
      · have := lt_first (hn x (List.mem_cons_self ..)) (hn y hy) (hs.1 y h1)
        omega
theorem pop_high {b : Ring} (h : High b) (hs : Sorted b.l) (hn : ∀ y ∈ b.l, y.length = 9) (u : Int) : High (b.pop u) := by
  intro y hy
  have h1 := come_rest u b.l hs hn y hy
  have h2 := h y (List.mem_of_mem_drop hy)
  show max b.hor u < _
  omega
theorem puts_hor : ∀ (l : List Sam) (b : Ring), (b.puts l).hor = b.hor
  | [], _ => rfl
  | x :: t, b => (puts_hor t _).trans (put_hor b x)
theorem puts_late : ∀ (l : List Sam) (b : Ring), (b.puts l).late = b.late + l.countP fun y => decide (fn y 0 ≤ b.hor)
  | [], _ => rfl
  | x :: t, b => by
    show ((b.put x).puts t).late = _
    rw [puts_late t, put_hor, List.countP_cons]
    unfold Ring.put
    by_cases hc : fn x 0 ≤ b.hor
    · rw [if_pos hc]; simp [hc]; omega
    · rw [if_neg hc]; simp [hc]; split <;> rfl
theorem puts_out : ∀ (l : List Sam) (b : Ring), (b.puts l).out = b.out
  | [], _ => rfl
  | x :: t, b => by
    show ((b.put x).puts t).out = _
    rw [puts_out t]
    unfold Ring.put
    split
    · rfl
    · split <;> rfl
/-- How many lie at the least number. -/
def lostN (l : List Sam) : Nat := l.countP fun y => decide (fn y 0 = -9223372036854775808)
theorem lostN_le (l : List Sam) : lostN l ≤ l.length := List.countP_le_length
theorem lost_snoc (l : List Sam) (k : Nat) (hk : k < l.length) : lostN (l.take (k + 1)) = lostN (l.take k) + if fn (l.getD k []) 0 = -9223372036854775808 then 1 else 0 := by
  rw [take_snoc l k hk]
  unfold lostN
  rw [List.countP_append]
  simp [List.countP_cons]
theorem fn_ge (y : Sam) (h : ∀ a ∈ y, -9223372036854775808 ≤ a ∧ a ≤ 9223372036854775807) : -9223372036854775808 ≤ fn y 0 := by
  cases y with
  | nil => show _ ≤ (0 : Int); omega
  | cons a r => exact (h a (List.mem_cons_self ..)).1
theorem late_new (l : List Sam) (z : Nat) (hr : ∀ y ∈ l, ∀ a ∈ y, -9223372036854775808 ≤ a ∧ a ≤ 9223372036854775807) : ((Ring.new z).puts l).late = lostN l := by
  rw [puts_late]
  show 0 + _ = _
  rw [Nat.zero_add]
  unfold lostN
  refine List.countP_congr fun y hy => ?_
  have := fn_ge y (hr y hy)
  show decide (fn y 0 ≤ -9223372036854775808) = true ↔ _
  simp
  omega
theorem high_new (z : Nat) : High (Ring.new z) := by intro y hy; simp [Ring.new] at hy
/-- What is known of the buffer between two times. -/
structure Midst (b : Ring) (n k o late : Nat) : Prop where
  high : High b
  len : b.l.length ≤ 64
  size : b.size = 64
  cnt : b.cIn = n + k
  out : b.out = o
  late : b.late = late + k
def Ring.lated (b : Ring) : Ring := { b with cIn := b.cIn + 1, late := b.late + 1 }
theorem put_late (b : Ring) : b.put (sm b.hor) = b.lated := by unfold Ring.put; rw [if_pos (show fn (sm b.hor) 0 ≤ b.hor from Int.le_refl _)]; rfl
theorem putR_late (b : Ring) : b.putR (sm b.hor) = false := by unfold Ring.putR; rw [if_pos (show fn (sm b.hor) 0 ≤ b.hor from Int.le_refl _)]
theorem Midst.next {b : Ring} {n k o late : Nat} (h : Midst b n k o late) (hs : Sorted b.l) (hn : ∀ y ∈ b.l, y.length = 9) (u : Int) : Midst (b.pop u).lated n (k + 1) (o + (b.l.take (come u b.l)).length) late := by
  have hp := pop_high h.high hs hn u
  refine ⟨hp, ?_, h.size, ?_, ?_, ?_⟩
  · show (b.l.drop _).length ≤ 64
    rw [List.length_drop]; have := h.len; omega
  · show b.cIn + 1 = _; rw [h.cnt]; omega
  · show b.out + come u b.l = _
    rw [h.out, List.length_take, Nat.min_eq_left (come_le u _)]
  · show b.late + 1 = _; rw [h.late]; omega
theorem midst_new (l : List Sam) (n : Nat) (hl : l.length = n) (hr : ∀ y ∈ l, ∀ a ∈ y, -9223372036854775808 ≤ a ∧ a ≤ 9223372036854775807) : Midst ((Ring.new 64).puts l) n 0 0 (lostN l) := by
  have hf := (Fits.new 64).puts l
  refine ⟨puts_high l (high_new 64), ?_, hf.size, ?_, puts_out l _, late_new l 64 hr⟩
  · have := hf.len; rw [hf.size] at this; exact this
  · rw [hf.cnt, hl]; omega
end Go.Proofs.Ytdndomknjefgkaa.Rg
