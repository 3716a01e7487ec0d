/- Counts compared; samples that were taken out joined; what many samples make of a buffer. -/
import Derived.Test.YtdndomknjefgkaaRgU
import Derived.Test.YtdndomknjefgkaaRgW
namespace Go.Proofs.Ytdndomknjefgkaa.Rg
open Go.RowKit
/-- The counts' type behind a name. -/
structure OpC (T : TypeId) (N : Nat) : Prop where
  is : 68 = T
  agg : ∀ w, Sem.run Try.prog (isAgg T) w = .ok true w
  size : ∀ w, Sem.run Try.prog (sizeOf T) w = .ok N w
  load : ∀ w b o f, Ints w b o 5 f → Sem.run Try.prog (loadCellsFrom ⟨b, o, none⟩ 0 N #[]) w = .ok (rowA 5 f) w
  guard : ∀ f g op x y w, Sem.run Try.prog (eqGuard op T x y (.agg (rowA 5 f)) (.agg (rowA 5 g))) w = .ok () w
  neq : ∀ f g w, Sem.run Try.prog (binOp .neq T (.agg (rowA 5 f)) (.agg (rowA 5 g))) w = .ok (.bool (!eqB 5 f g)) w
  eqv : ∀ f g w, Sem.run Try.prog (Op.equal T (.agg (rowA 5 f)) (.agg (rowA 5 g))) w = .ok (eqB 5 f g) w
theorem cntFlat : SX.flatOk Try.prog 68 = some (List.replicate 5 true) := by kernel_rfl
theorem opC : ∃ T N, OpC T N := ⟨_, 5, rfl, fun w => by kernel_rfl, fun w => by kernel_rfl, fun _ _ _ _ h => load_ints _ h, fun f g op x y w => guard_row cntFlat f g w op x y, fun f g w => neq_row cntFlat f g w, fun f g w => equal_row cntFlat f g w⟩
def cF (b : Ring) (j : Nat) : Int := match j with
  | 0 => b.cIn
  | 1 => b.late
  | 2 => b.full
  | 3 => b.bad
  | _ => b.out
section
variable {w W : World} {P Q : World → Value → Prop} {f g : Value → List Nat} {X : List Nat} {A : Nat} {b : Ring}
theorem two_counts (s : Two w (PB A b) Q (foot A) g X W) : Ints W A 0 5 (cF b) := by
  obtain ⟨h0, h1, h2, h3, h4⟩ := two_cell s
  refine ⟨fun i hi => ?_⟩
  rw [Nat.zero_add]
  match i, hi with
  | 0, _ => exact h0
  | 1, _ => exact h1
  | 2, _ => exact h2
  | 3, _ => exact h3
  | 4, _ => exact h4
/-- What is not to be touched may be written on. -/
theorem Two.touch {W' : World} {S : List Nat} (s : Two w P Q f g X W) (k : Tch S W W') (h : ∀ q, q ∈ S → w.heap.size ≤ q ∧ q ∈ X) : Two w P Q f g X W' := by
  obtain ⟨v, u, h1, h2, h3, h4⟩ := s.ex
  exact ⟨s.kp, s.kq, ⟨v, u, s.kp.keep S _ _ v h1 k (fun q hq hm => (h3 q hq).2.1 (h q hm).2), s.kq.keep S _ _ u h2 k (fun q hq hm => (h4 q hq).2 (h q hm).2), h3, h4⟩, fun q hq => Nat.lt_of_lt_of_le (s.xlt q hq) k.size, s.K.trans (k.below s.K.size fun q hq => (h q hq).1)⟩
theorem Two.also {W' : World} {Y : List Nat} (s : Two w P Q f g X W) (s' : Two w P Q f g X W') (hY : ∀ q, q ∈ Y → q < W'.heap.size ∧ (q ∈ X ∨ W.heap.size ≤ q)) (hP : ∀ v, P W' v → P W v) (hQ : ∀ v, Q W' v → Q W v) : Two w P Q f g (Y ++ X) W' := by
  obtain ⟨v, u, h1, h2, h3, h4⟩ := s'.ex
  have e1 := s.kp.lt W v (hP v h1)
  have e2 := s.kq.lt W u (hQ u h2)
  refine ⟨s'.kp, s'.kq, ⟨v, u, h1, h2, fun q hq => ⟨(h3 q hq).1, fun hm => ?_, (h3 q hq).2.2⟩, fun q hq => ⟨(h4 q hq).1, fun hm => ?_⟩⟩, fun q hq => ?_, s'.K⟩
  · rcases List.mem_append.1 hm with h | h
    · rcases (hY q h).2 with h5 | h5
      · exact (h3 q hq).2.1 h5
      · have := e1 q hq; omega
    · exact (h3 q hq).2.1 h
  · rcases List.mem_append.1 hm with h | h
    · rcases (hY q h).2 with h5 | h5
      · exact (h4 q hq).2 h5
      · have := e2 q hq; omega
    · exact (h4 q hq).2 h
  · rcases List.mem_append.1 hq with h | h
    · exact (hY q h).1
    · exact s'.xlt q h
/-- Samples taken out, joined. -/
theorem two_app (s : Two w P Q f g X W) (ty : TypeId) (v : Value) (l m : List Sam) (n1 n2 : Nat) (h1 : l.length = n1) (h2 : m.length = n2) (a : Option Addr) (c : Nat) (hv : Row W v l) (hX : ∀ q, q ∈ own v → w.heap.size ≤ q ∧ q ∈ X) (hm : Row W (.slice a n2 c) m) (hs : n1 + n2 < 1000) :
    ∃ a2 c2 W', (Builtin.append_ #[61, 61] ty #[v, .slice a n2 c]).run Try.prog W = .ok (.slice a2 (n1 + n2) c2) W' ∧ Row W' (.slice a2 (n1 + n2) c2) (l ++ m) ∧ Two w P Q f g (own (.slice a2 (n1 + n2) c2) ++ X) W' := by
  have hm' : m = [] ∨ ∃ g o, a = some ⟨g, o, none⟩ ∧ Ints W g o (9 * n2) (fl m) := by
    rcases hm.read.inv with ⟨_, _, h3, h4, _⟩ | ⟨g, o, c', h3, _, _, h6⟩
    · exact .inl h4
    · injection h3 with e1 e2 e3
      exact .inr ⟨g, o, e1, by rw [← h2]; exact h6⟩
  obtain ⟨a2, c2, W', r1, r2, r3, r4⟩ := app_is W ty v l m n1 n2 h1 h2 a c hv hm' hs
  refine ⟨a2, c2, W', r1, r2, ?_⟩
  obtain ⟨p, u, h3, h4, h5, h6⟩ := s.ex
  have e1 := s.kp.lt W p h3
  have e2 := s.kq.lt W u h4
  have s' := s.touch r3 hX
  refine ⟨s.kp, s.kq, ⟨p, u, s.kp.keep _ _ _ p h3 r3 (fun q hq hm => (h5 q hq).2.1 (hX q hm).2), s.kq.keep _ _ _ u h4 r3 (fun q hq hm => (h6 q hq).2 (hX q hm).2), fun q hq => ⟨(h5 q hq).1, fun hm => ?_, (h5 q hq).2.2⟩, fun q hq => ⟨(h6 q hq).1, fun hm => ?_⟩⟩, fun q hq => ?_, s'.K⟩
  · rcases List.mem_append.1 hm with h | h
    · rcases r4 q h with h7 | h7
      · exact (h5 q hq).2.1 (hX q h7).2
      · have := e1 q hq; omega
    · exact (h5 q hq).2.1 h
  · rcases List.mem_append.1 hm with h | h
    · rcases r4 q h with h7 | h7
      · exact (h6 q hq).2 (hX q h7).2
      · have := e2 q hq; omega
    · exact (h6 q hq).2 h
  · rcases List.mem_append.1 hq with h | h
    · exact r2.lt q h
    · exact s'.xlt q h
end
theorem Row.same {W W' : World} {v : Value} {l : List Sam} (h : Row W v l) (hx : ∀ q, q ∈ own v → W'.heap[q]? = W.heap[q]?) : Row W' v l := by
  rcases h.inv with ⟨rfl, rfl⟩ | ⟨g, cap, F, rfl, hB, hc, hm, hF⟩
  · exact .nil
  · exact .lies g cap F l ((hx g (by simp [own])).trans hB) hc hm hF
theorem come_split (a b : Int) (hab : a ≤ b) : ∀ l, come b l = come a l + come b (l.drop (come a l))
  | [] => rfl
  | y :: r => by
    rw [show come a (y :: r) = if fn y 0 ≤ a then come a r + 1 else 0 from rfl, show come b (y :: r) = if fn y 0 ≤ b then come b r + 1 else 0 from rfl]
    by_cases h : fn y 0 ≤ a
    · rw [if_pos h, if_pos (by omega), come_split a b hab r, List.drop_succ_cons]
      omega
    · rw [if_neg h, List.drop_zero, Nat.zero_add]
      rfl
/-- Many samples put in, one after another. -/
def Ring.puts (b : Ring) : List Sam → Ring
  | [] => b
  | x :: r => (b.put x).puts r
theorem puts_snoc : ∀ (l : List Sam) (b : Ring) (x : Sam), b.puts (l ++ [x]) = (b.puts l).put x
  | [], _, _ => rfl
  | y :: r, b, x => by simp only [List.cons_append, Ring.puts]; exact puts_snoc r _ x
structure Fits (b : Ring) (n size : Nat) : Prop where
  len : b.l.length ≤ b.size
  size : b.size = size
  cnt : b.cIn = n
theorem Fits.put {b : Ring} {n size : Nat} (h : Fits b n size) (x : Sam) : Fits (b.put x) (n + 1) size := by
  unfold Ring.put
  split
  · exact ⟨h.len, h.size, by show b.cIn + 1 = _; rw [h.cnt]⟩
  · split
    · rename_i h1; exact ⟨h1, h.size, by show b.cIn + 1 = _; rw [h.cnt]⟩
    · exact ⟨by show (ins x b.l).tail.length ≤ b.size; rw [List.length_tail, ins_len]; have := h.len; omega, h.size, by show b.cIn + 1 = _; rw [h.cnt]⟩
theorem Fits.puts : ∀ (l : List Sam) {b : Ring} {n size : Nat}, Fits b n size → Fits (b.puts l) (n + l.length) size
  | [], _, _, _, h => h
  | x :: r, _, _, _, h => by
    have := Fits.puts r (h.put x)
    rwa [Nat.add_assoc, Nat.add_comm 1, ← List.length_cons (a := x)] at this
theorem Fits.new (size : Nat) : Fits (Ring.new size) 0 size := ⟨Nat.zero_le _, rfl, rfl⟩
theorem take_snoc (l : List Sam) (k : Nat) (hk : k < l.length) : l.take (k + 1) = l.take k ++ [l.getD k []] := by
  rw [List.take_add_one, List.getD_eq_getElem?_getD, List.getElem?_eq_getElem hk]
  rfl
end Go.Proofs.Ytdndomknjefgkaa.Rg
