/- The document's own buffer. -/
import Derived.Test.YtdndomknjefgkaaRgK
namespace Go.Proofs.Ytdndomknjefgkaa.Rg
open Go.RowKit
theorem fl_app (l m : List Sam) (q : Nat) : fl (l ++ m) q = if q < 9 * l.length then fl l q else fl m (q - 9 * l.length) := by
  unfold fl
  by_cases h : q < 9 * l.length
  · rw [if_pos h]
    simp only [List.getD_eq_getElem?_getD]
    rw [List.getElem?_append_left (by omega)]
  · rw [if_neg h, show (q - 9 * l.length) % 9 = q % 9 by omega, show (q - 9 * l.length) / 9 = q / 9 - l.length by omega]
    simp only [List.getD_eq_getElem?_getD]
    rw [List.getElem?_append_right (by omega)]
/-- Samples join a slice of one's own. -/
theorem app_any (w : World) (ty : TypeId) (v : Value) (l m : List Sam) (a : Option Addr) (c : Nat) (hv : Row w v l) (hm : m = [] ∨ ∃ g o, a = some ⟨g, o, none⟩ ∧ Ints w g o (9 * m.length) (fl m)) (hs : l.length + m.length < 1000) :
    ∃ a2 c2 W, (Builtin.append_ #[61, 61] ty #[v, .slice a m.length c]).run Try.prog w = .ok (.slice a2 (l ++ m).length c2) W ∧ Row W (.slice a2 (l ++ m).length c2) (l ++ m) ∧ Tch (own v) w W ∧ ∀ q, q ∈ own (.slice a2 (l ++ m).length c2) → q ∈ own v ∨ w.heap.size ≤ q := by
  rcases hm with rfl | ⟨g, o, rfl, hi⟩
  · obtain ⟨a2, c2, rfl, hc⟩ := hv.shape
    rw [List.append_nil]
    exact ⟨a2, c2, w, app_nothing w ty a2 _ c2 c a hc, hv, Tch.refl _ _, fun q hq => .inl hq⟩
  · have hi2 : Ints w g o (m.length * 9) (fl m) := by rw [Nat.mul_comm]; exact hi
    have hlen : (l ++ m).length = l.length + m.length := by simp
    rw [hlen]
    have fin : ∀ (n : Nat) (C : Nat) (W : World) (gg : Nat) (G : Nat → Int), Blk W gg (rowA (9 * C) G) 56 → l.length + m.length ≤ C → C ≤ maxLen → (∀ q, q < 9 * (l.length + m.length) → G q = if q < l.length * 9 then fl l q else fl m (q - l.length * 9)) →
        Row W (.slice (some ⟨gg, 0, none⟩) (l.length + m.length) C) (l ++ m) := fun n C W gg G h1 h2 h3 h4 =>
      row_is h1 hlen h2 h3 fun q hq => by rw [h4 q hq, fl_app, Nat.mul_comm 9]
    rcases hv.inv with ⟨h1, h2⟩ | ⟨b, cap, F, h1, hB, hc, hcm, hF⟩
    · subst h1 h2
      rcases Nat.eq_zero_or_pos m.length with h0 | h0
      · have : m = [] := List.eq_nil_of_length_eq_zero h0
        subst this
        exact ⟨none, 0, w, app_nothing w ty none 0 0 c _ (Nat.le_refl _), .nil, Tch.refl _ _, fun q hq => .inl hq⟩
      · obtain ⟨C, hC1, hC2, hr⟩ := app_grow w ty none 0 0 m.length c g o (fun _ => 0) (fl m) (old_none _ _ _) hi2 (by omega) (by omega)
        simp only [Nat.zero_add, Nat.zero_mul, Nat.not_lt_zero, if_false, Nat.sub_zero] at hr hC1
        refine ⟨_, C, _, by simpa using hr, fin 0 C _ _ _ (Blk.made _ _ _ rfl) (by simpa using hC1) hC2 (fun q hq => ?_), (Tch.refl _ _).drew.alloc _, fun q hq => .inr (by simp [own] at hq; omega)⟩
        simp at hq ⊢
        intro h; omega
    · subst h1
      have hS := Row.cap_ints hB hc hF (i := 0) (n := l.length) (by omega)
      have hS : Ints w b 0 (l.length * 9) (fl l) := by simpa using hS
      rcases Nat.lt_or_ge cap (l.length + m.length) with h0 | h0
      · obtain ⟨C, hC1, hC2, hr⟩ := app_grow w ty (some ⟨b, 0, none⟩) l.length cap m.length c g o (fl l) (fl m) (old_some _ hS.drew) hi2 h0 (by omega)
        refine ⟨_, C, _, hr, fin 0 C _ _ _ (Blk.made _ _ _ rfl) hC1 hC2 (fun q hq => ?_), (Tch.refl _ _).drew.alloc _, fun q hq => .inr (by simp [own] at hq; omega)⟩
        by_cases h : q < l.length * 9
        · rw [if_pos h, if_pos h]
        · rw [if_neg h, if_neg h, if_pos (by omega)]
      · have hr := app_room w ty b l.length cap m.length c g o (fl m) F hB hi2 h0
        refine ⟨_, cap, _, hr, fin 0 cap _ _ _ (putI_blk hB (by omega)) h0 hcm (fun q hq => ?_), (Tch.refl _ _).putI (.inl (by simp [own])) _ _ _, fun q hq => .inl hq⟩
        by_cases h : q < l.length * 9
        · rw [if_neg (by omega), if_pos h, hF q (by omega)]
        · rw [if_pos (by omega), if_neg h]
theorem app_is (w : World) (ty : TypeId) (v : Value) (l m : List Sam) (n1 n2 : Nat) (h1 : l.length = n1) (h2 : m.length = n2) (a : Option Addr) (c : Nat) (hv : Row w v l) (hm : m = [] ∨ ∃ g o, a = some ⟨g, o, none⟩ ∧ Ints w g o (9 * n2) (fl m)) (hs : n1 + n2 < 1000) :
    ∃ a2 c2 W, (Builtin.append_ #[61, 61] ty #[v, .slice a n2 c]).run Try.prog w = .ok (.slice a2 (n1 + n2) c2) W ∧ Row W (.slice a2 (n1 + n2) c2) (l ++ m) ∧ Tch (own v) w W ∧ ∀ q, q ∈ own (.slice a2 (n1 + n2) c2) → q ∈ own v ∨ w.heap.size ≤ q := by
  subst h1 h2
  have := app_any w ty v l m a c hv hm hs
  rwa [List.length_append] at this
/-- A slice of samples that is read alone. -/
inductive RRow (w : World) : Value → List Sam → Prop
  | nil (a : Option Addr) (c : Nat) (ha : ∀ p, a = some p → p.block < w.heap.size ∧ p.spot = none) (h0 : a = none → c = 0) : RRow w (.slice a 0 c) []
  | lies (g o c : Nat) (l : List Sam) : g < w.heap.size → l.length ≤ c → Ints w g o (9 * l.length) (fl l) → RRow w (.slice (some ⟨g, o, none⟩) l.length c) l
theorem RRow.inv {w : World} {v : Value} {l : List Sam} (h : RRow w v l) : (∃ a c, v = .slice a 0 c ∧ l = [] ∧ (∀ p, a = some p → p.block < w.heap.size ∧ p.spot = none) ∧ (a = none → c = 0)) ∨ ∃ g o c, v = .slice (some ⟨g, o, none⟩) l.length c ∧ g < w.heap.size ∧ l.length ≤ c ∧ Ints w g o (9 * l.length) (fl l) := by
  cases h with
  | nil a c ha h0 => exact .inl ⟨a, c, rfl, rfl, ha, h0⟩
  | lies g o c l h1 h2 h3 => exact .inr ⟨g, o, c, rfl, h1, h2, h3⟩
theorem RRow.lt {w : World} {v : Value} {l : List Sam} (h : RRow w v l) : ∀ b, b ∈ own v → b < w.heap.size := by
  rcases h.inv with ⟨a, c, rfl, _, ha, _⟩ | ⟨g, o, c, rfl, hg, _⟩
  · intro b hb
    cases a with
    | none => simp [own] at hb
    | some p => simp [own] at hb; subst hb; exact (ha p rfl).1
  · intro b hb; simp [own] at hb; subst hb; exact hg
theorem RRow.keep {S : List Nat} {w w' : World} {v : Value} {l : List Sam} (h : RRow w v l) (k : Tch S w w') (hd : ∀ b, b ∈ own v → b ∉ S) : RRow w' v l := by
  rcases h.inv with ⟨a, c, rfl, rfl, ha, h0⟩ | ⟨g, o, c, rfl, hg, hc, hi⟩
  · exact .nil a c (fun p hp => ⟨Nat.lt_of_lt_of_le (ha p hp).1 k.size, (ha p hp).2⟩) h0
  · exact .lies g o c l (Nat.lt_of_lt_of_le hg k.size) hc (k.ints hi hg (hd g (by simp [own])))
theorem RRow.shape {w : World} {v : Value} {l : List Sam} (h : RRow w v l) : ∃ a c, v = .slice a l.length c ∧ l.length ≤ c := by
  rcases h.inv with ⟨a, c, rfl, rfl, ha, _⟩ | ⟨g, o, c, rfl, hg, hc, hi⟩
  · exact ⟨a, c, rfl, Nat.zero_le _⟩
  · exact ⟨_, c, rfl, hc⟩
theorem Row.read {w : World} {v : Value} {l : List Sam} (h : Row w v l) : RRow w v l := by
  rcases h.inv with ⟨rfl, rfl⟩ | ⟨g, cap, F, rfl, hB, hc, hcm, hF⟩
  · exact .nil none 0 (by simp) (fun _ => rfl)
  · exact .lies g 0 cap l hB.lt hc ⟨fun i hi => by rw [Nat.zero_add, hB.cell, rowA_get _ (by omega), hF i hi]⟩
def rbufC (b : Ring) (v : Value) : Array Value := #[.int .i64 (b.size : Nat), v, .int .i64 b.hor, .int .i64 (b.cIn : Nat), .int .i64 (b.late : Nat), .int .i64 (b.full : Nat), .int .i64 (b.bad : Nat), .int .i64 (b.out : Nat)]
/-- The document's own lies at A. -/
structure RBuf (w : World) (A : Nat) (v : Value) (b : Ring) : Prop where
  blk : Blk w A (rbufC b v) 73
  row : RRow w v b.l
  ne : A ∉ own v
  srt : Sorted b.l
  nine : ∀ y ∈ b.l, y.length = 9
  len : b.l.length < 900
  sum : b.cIn = b.late + b.full + b.bad + b.out + b.l.length
theorem RBuf.keep {S : List Nat} {w w' : World} {A : Nat} {v : Value} {b : Ring} (h : RBuf w A v b) (k : Tch S w w') (hA : A ∉ S) (hv : ∀ q, q ∈ own v → q ∉ S) : RBuf w' A v b :=
  ⟨k.blk h.blk hA, h.row.keep k hv, h.ne, h.srt, h.nine, h.len, h.sum⟩
set_option maxHeartbeats 1000000 in
theorem rnew_any (n : Int) (w : World) : Calls Try.prog 19 #[.int .i64 n] w fun e w' => e = .returned (.pointer (some ⟨w.heap.size, 0, none⟩)) ∧ (∀ k : Nat, n = k → RBuf w' w.heap.size (.slice none 0 0) (Ring.new k)) ∧ Below w.heap.size w w' ∧ w'.heap.size = w.heap.size + 1 := by
  go_enter Try.func19, Try.ntmps19
  go_wp2
  go_ret
  refine ⟨rfl, fun k hk => ⟨Blk.made _ _ _ rfl |> fun h => blk_is h (by rw [hk]; rfl), .nil none 0 (by simp) (fun _ => rfl), by simp [own], List.Pairwise.nil, by simp [Ring.new], by simp [Ring.new], by simp [Ring.new]⟩, (Below.refl _ _).alloc (Nat.le_refl _) _, by simp⟩
set_option maxHeartbeats 1000000 in
theorem rspoilt_any (A : Nat) (v : Value) (b : Ring) (w : World) (h : RBuf w A v b) (hs : b.cIn < 1000000) : Calls Try.prog 25 #[.pointer (some ⟨A, 0, none⟩)] w fun e w' => e = .returned (.tuple #[]) ∧ RBuf w' A v b.spoilt ∧ Tch [A] w w' := by
  have c0 := h.blk.cell 3
  have c3 := h.blk.cell 6
  have f0 := h.blk.free 3
  have f3 := h.blk.free 6
  have hb := h.sum
  simp only [rbufC] at c0 c3
  have H := Lib.hid h
  clear h
  have e1 : (b.cIn : Int) < 1000000 := by omega
  have e2 : (b.bad : Int) < 1000000 := by omega
  have HS := Lib.hid hb
  clear hb hs
  go_enter Try.func25, Try.ntmps25
  go_wp2_with fail
  have w1 : IntKind.i64.wrap ((b.cIn : Int) + 1) = (b.cIn : Int) + 1 := by rw [IntKind.wrap_i64]; omega
  have w2 : IntKind.i64.wrap ((b.bad : Int) + 1) = (b.bad : Int) + 1 := by rw [IntKind.wrap_i64]; omega
  clear e1 e2
  go_region_law (fail)
  all_goals
    go_wp2_with fail
    go_region_law (fail)
  all_goals
    try simp only [Exit.then]
    refine bodyPost_end (results_none rfl _ _ _) rfl ?_
    have k : Tch [A] w ((w.setCell ⟨A, 3, none⟩ (.int .i64 ((b.cIn : Int) + 1))).setCell ⟨A, 6, none⟩ (.int .i64 ((b.bad : Int) + 1))) := ((Tch.refl _ _).set (.inl (by simp)) _ _).set (.inl (by simp)) _ _
    refine ⟨rfl, ⟨blk_is (blk_setC (blk_setC H.out.blk rfl) rfl) (by simp [rbufC, Ring.spoilt]), ?_, H.out.ne, H.out.srt, H.out.nine, H.out.len, ?_⟩, ⟨k.os, k.tape, k.output, k.size, k.block⟩⟩
    · exact (H.out.row.keep k (fun q hq => by have := H.out.ne; simp; rintro rfl; exact this hq)).keep (S := []) ⟨rfl, rfl, rfl, Nat.le_refl _, fun _ _ _ => rfl⟩ (by simp)
    · have := HS.out; simp [Ring.spoilt]; omega
end Go.Proofs.Ytdndomknjefgkaa.Rg
